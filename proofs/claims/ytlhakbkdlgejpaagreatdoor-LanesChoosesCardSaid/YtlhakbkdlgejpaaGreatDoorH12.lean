/-
  LSome, LAwake, LRName, LRSplit: merged, what the law does not reach left out (each text says what it holds where it lies in wip). No condition.
-/
import Derived.Test.YtlhakbkdlgejpaaGreatDoorH06
import Derived.Test.YtlhakbkdlgejpaaGreatDoorH09
import Derived.Test.YtlhakbkdlgejpaaGreatDoorH08
import Derived.Test.YtlhakbkdlgejpaaGreatDoorH07
import Derived.Deep.DeepCutAuto
import Derived.Test.YtlhakbkdlgejpaaGreatDoorH11
import Derived.Test.YtlhakbkdlgejpaaGreatDoorH03
import Derived.Test.YtlhakbkdlgejpaaGreatDoorH01
set_option linter.unusedSimpArgs false
set_option linter.unusedVariables false
set_option maxRecDepth 100000
namespace Go.Proofs.YtlhakbkdlgejpaaGreatDoor
open Go.RowKit
def avc (a : Av) : List Value := [.int .i64 a.1, .int .u64 (a.2.1 : Nat), .int .u64 (a.2.2.1 : Nat), .bool a.2.2.2]
theorem info24 : (Tryz.prog.info? 24).map (fun i => (i.zero, i.size, i.bytes)) = some (some (.agg #[.int .i64 0, .int .u64 0, .int .u64 0, .bool false]), 4, 32) := by kernel_rfl
theorem cell_four_new (w : World) (x0 x1 x2 x3 : Value) (t : TypeId) : ∀ j u, [x0, x1, x2, x3][j]? = some u → (w.alloc (.cells #[x0, x1, x2, x3] t)).cell? ((⟨w.heap.size, 0, none⟩ : Addr).add j) = some u := by
  intro j u hj
  have h := CA.new w #[x0, x1, x2, x3] t
  have e : ((⟨w.heap.size, 0, none⟩ : Addr).add j) = ⟨w.heap.size, j, none⟩ := by (simp [Addr.add]; try (intro h; exact h.symm))
  rw [e]
  exact h.at (by rw [List.getElem?_toArray]; exact hj)
theorem append_val {w : World} {ops : Array Oper} {rest : List Oper} {o : Oper} {a : Act} {Q : Exit → Act → World → Prop} (hgd : o.guard = none) (s x : Operand)
    (ho : o.op = .call { callee := .builtin .append, args := #[s, x], argTypes := #[30, 30] }) (base : Nat) (v : Value) (n : Nat) (xs : List Value) (t lo hi : Int) (nl : Bool)
    (hown : w.ownsRow base 24 4 v n xs) (hbase : base ≤ w.heap.size) (hn : n + 1 ≤ 1000) (hs : a.eval s = v) (hx : a.eval x = .slice (some ⟨w.heap.size, 0, none⟩) 1 1)
    (h : ∀ v' w', w'.ownsRow base 24 4 v' (n + 1) (xs ++ [.int .i64 t, .int .u64 lo, .int .u64 hi, .bool nl]) → Below base w w' → base ≤ w'.heap.size → wpList Tryz.prog ops Q rest (a.put o.dst v') w') :
    wpList Tryz.prog ops Q (o :: rest) a (w.alloc (.cells #[.int .i64 t, .int .u64 lo, .int .u64 hi, .bool nl] 24)) := by
  obtain ⟨i0, hi0, hz0, hz1, hz2⟩ := info_parts info24
  have hb1 := (Below.refl base w).alloc hbase (.cells #[.int .i64 t, .int .u64 lo, .int .u64 hi, .bool nl] 24)
  refine wpList_append_own _ hgd s x 30 ho base 24 i0 _ 4 32 Tryz.underlying30 hi0 hz0 hz1 hz2 rfl (by decide) v n xs hs (hown.alloc _) ⟨w.heap.size, 0, none⟩ 1 1 [.int .i64 t, .int .u64 lo, .int .u64 hi, .bool nl] hx rfl (cell_four_new _ _ _ _ _ _)
    (fun u hu => by simp at hu; rcases hu with rfl | rfl | rfl | rfl <;> rfl) (by unfold maxLen; omega) (by omega) (by simp; omega) ?_
  intro v' w1 hown' hgrow _
  exact h v' w1 hown' (hb1.grown hgrow (by simp; omega) (fun k hk => (hown.lt k hk).1)) (by have := hgrow.size; simp at this; omega)
theorem AR.of1 {w : World} {base : Nat} {v : Value} {a : Av} (h : w.ownsRow base 24 4 v 1 (avc a)) : AR w v [a] := by
  have h0 := h
  rcases h.2 with ⟨_, h2⟩ | ⟨g, cap, cur, rfl, e2, e3, e4, _⟩
  · omega
  · refine ⟨g, cap, rfl, (Array.getElem?_eq_some_iff.1 e3).1, e4, fun j b hj => ?_⟩
    cases j with
    | zero =>
      obtain rfl : a = b := by simpa using hj
      exact ⟨h0.cellAt 0 (by decide), h0.cellAt 1 (by decide), h0.cellAt 2 (by decide), h0.cellAt 3 (by decide)⟩
    | succ j => simp at hj
theorem AR.of2 {w : World} {base : Nat} {v : Value} {a b : Av} (h : w.ownsRow base 24 4 v 2 (avc a ++ avc b)) : AR w v [a, b] := by
  have h0 := h
  rcases h.2 with ⟨_, h2⟩ | ⟨g, cap, cur, rfl, e2, e3, e4, _⟩
  · omega
  · refine ⟨g, cap, rfl, (Array.getElem?_eq_some_iff.1 e3).1, e4, fun j c hj => ?_⟩
    match j, hj with
    | 0, hj =>
      obtain rfl : a = c := by simpa using hj
      exact ⟨h0.cellAt 0 (by decide), h0.cellAt 1 (by decide), h0.cellAt 2 (by decide), h0.cellAt 3 (by decide)⟩
    | 1, hj =>
      obtain rfl : b = c := by simpa using hj
      exact ⟨h0.cellAt 4 (by decide), h0.cellAt 5 (by decide), h0.cellAt 6 (by decide), h0.cellAt 7 (by decide)⟩
    | j + 2, hj => simp at hj
/-- Three boxes and a row lie behind w. -/
structure Bx (w : World) (ca cb cc : Array Value) (W : World) : Prop where
  below : Below w.heap.size w W
  a : CA w.heap.size ca 24 W
  b : CA (w.heap.size + 1) cb 24 W
  c : CA (w.heap.size + 2) cc 24 W
theorem Bx.to {w : World} {ca cb cc : Array Value} {W W' : World} (h : Bx w ca cb cc W) (hb : Below W.heap.size W W') : Bx w ca cb cc W' := ⟨h.below.trans (hb.mono h.below.size), h.a.call hb, h.b.call hb, h.c.call hb⟩
theorem Bx.start (w : World) (ca cb cc : Array Value) : Bx w ca cb cc (((w.alloc (.cells ca 24)).alloc (.cells cb 24)).alloc (.cells cc 24)) := by
  have n2 := (CA.new (w.alloc (.cells ca 24)) cb 24).alloc (.cells cc 24)
  have n3 := CA.new ((w.alloc (.cells ca 24)).alloc (.cells cb 24)) cc 24
  simp only [size_al] at n2 n3
  exact ⟨(((Below.refl _ w).alloc (Nat.le_refl _) _).alloc (by simp only [size_al]; omega) _).alloc (by simp only [size_al]; omega) _, ((CA.new w ca 24).alloc _).alloc _, n2, n3⟩
theorem Bx.of {w : World} {ca cb cc : Array Value} {W' : World} (hb : Below (((w.alloc (.cells ca 24)).alloc (.cells cb 24)).alloc (.cells cc 24)).heap.size (((w.alloc (.cells ca 24)).alloc (.cells cb 24)).alloc (.cells cc 24)) W') : Bx w ca cb cc W' := (Bx.start w ca cb cc).to hb
theorem Bx.set {w : World} {ca cb cc : Array Value} {W : World} (h : Bx w ca cb cc W) (x y z : Value) : Bx w (ca.setIfInBounds 0 x) (cb.setIfInBounds 0 y) (cc.setIfInBounds 0 z) (((W.setCell ⟨w.heap.size, 0, none⟩ x).setCell ⟨w.heap.size + 1, 0, none⟩ y).setCell ⟨w.heap.size + 2, 0, none⟩ z) :=
  ⟨((h.below.setCell (Nat.le_refl _) _).setCell (p := ⟨w.heap.size + 1, 0, none⟩) (Nat.le_succ _) _).setCell (p := ⟨w.heap.size + 2, 0, none⟩) (Nat.le_trans (Nat.le_succ _) (Nat.le_succ _)) _,
   ((h.a.set x).far (by omega) y).far (by omega) z, ((h.b.far (by omega) x).set y).far (by omega) z, ((h.c.far (by omega) x).far (by omega) y).set z⟩
set_option maxHeartbeats 4000000 in
set_option maxRecDepth 100000 in
theorem some_2 (LL : List Int) (hLL : 1 ≤ LL.length) (hLL2 : LL.length ≤ 60) (gl cl : Nat) (which : Int) (hw0 : -9223372036854775808 ≤ which) (hw1 : which ≤ 9223372036854775807) (ta tb tc : Int) (alo ahi blo bhi clo chi : Nat) (anl bnl cnl : Bool) (nn : Int) (w : World) (hgl : gl < w.heap.size)
    (hcl : ∀ j, j < LL.length → w.cell? ⟨gl, j, none⟩ = some (.int .i64 (LL.getD j 0))) (y idx : Nat) (hyb : bits .and .i64 which 1023 = (y : Int)) (hidx : idx = y % LL.length) (hil : idx < LL.length) (op : Int) (hop : op = 64768 + LL.getD idx 0) (hopr : 64768 ≤ op ∧ op < 65024)
    (ro : Int) (nm tk lv : List UInt8) (fx : Bool) (hr : ofL op = (ro, nm, 0, tk, lv, fx)) (htk : tk.length ≤ 100) (hty : tyL tk = [123, 123]) (lo hi : Nat)
    (HP : ∀ W va, Below w.heap.size w W → AR W va ([(123, alo, ahi, anl), (123, blo, bhi, bnl)]) → Calls Tryz.prog 20 #[.int .i64 op, .slice none 0 0, va] W fun e w' => e = .returned (.tuple #[vv 123 lo hi false, .int .i64 0]) ∧ Below W.heap.size W w')
    (HR : ∀ W va, Below w.heap.size w W → AR W va ([(123, alo, ahi, anl), (123, blo, bhi, bnl)]) → Calls Tryz.prog 38 #[.int .i64 op, .slice none 0 0, va] W fun e w' => e = .returned (.tuple #[vv 123 lo hi false, .int .i64 0]) ∧ Below W.heap.size W w') :
    Calls Tryz.prog 21 #[.slice (some ⟨gl, 0, none⟩) LL.length cl, .int .i64 which, vv ta alo ahi anl, vv tb blo bhi bnl, vv tc clo chi cnl, .int .u64 nn] w fun e w' => e = .returned (.bool true) ∧ Below w.heap.size w w' := by
  have HO := fun W => hid (Of_says op W)
  rw [hr] at HO
  have HT := fun W => hid (reftypes_says tk htk W)
  rw [hty] at HT
  have HPP := fun W va h1 h2 => hid (HP W va h1 h2)
  have HRR := fun W va h1 h2 => hid (HR W va h1 h2)
  have hc := hcl idx hil
  obtain ⟨x, hx⟩ : ∃ x, x = LL.getD idx 0 := ⟨_, rfl⟩
  rw [← hx] at hc hop
  have hwo : wrap64 (64768 + x) = op := by rw [hop]; unfold wrap64; omega
  obtain ⟨m, hm⟩ : ∃ m, m = LL.length := ⟨_, rfl⟩
  rw [← hm] at hidx hil hLL hLL2 ⊢
  rw [hidx] at hc
  have hml : y % m < m := Nat.mod_lt _ hLL
  have hc3 : ∀ o1 o2 o3, (((w.alloc o1).alloc o2).alloc o3).cell? ⟨gl, y % m, none⟩ = some (.int .i64 x) := fun o1 o2 o3 => by
    rw [((((Below.refl _ w).alloc (Nat.le_refl _) o1).alloc (by simp) o2).alloc (by simp; omega) o3).cell (p := ⟨gl, y % m, none⟩) hgl]; exact hc
  have hm0 : ((m : Int) == 0) = false := by simp; omega
  have htm : ((y : Int)).tmod (m : Int) = ((y % m : Nat) : Int) := by rw [Int.tmod_eq_emod_of_nonneg (Int.natCast_nonneg _)]; simp
  unfold vv at HPP HRR ⊢
  unfold rwV at HO
  clear hr hty HP HR hcl hx hop hm hidx hil
  go_enter Tryz.func21, Tryz.ntmps21
  go_upto_region 3 with (first
    | (go_at_call 23; refine (HO _).out.mono ?_; rintro e w1 ⟨rfl, hb1⟩; have HX1 := hid (Bx.of hb1); clear hb1))
  have HW : Hid (Bx w #[.int .i64 ta, .int .u64 (alo : Nat), .int .u64 (ahi : Nat), .bool anl] #[.int .i64 tb, .int .u64 (blo : Nat), .int .u64 (bhi : Nat), .bool bnl] #[.int .i64 tc, .int .u64 (clo : Nat), .int .u64 (chi : Nat), .bool cnl] (w1.alloc (.cells #[.int .i64 ro, .string (str nm), .int .i64 0, .string (str tk), .string (str lv), .bool fx] 36))) := HX1.out.to ((Below.refl _ _).alloc (Nat.le_refl _) _)
  have HRW : Hid (CA w1.heap.size #[.int .i64 ro, .string (str nm), .int .i64 0, .string (str tk), .string (str lv), .bool fx] 36 (w1.alloc (.cells #[.int .i64 ro, .string (str nm), .int .i64 0, .string (str tk), .string (str lv), .bool fx] 36))) := CA.new w1 _ 36
  have hg8 : w.heap.size + 2 < w1.heap.size := HX1.out.c.lt
  generalize w1.alloc (.cells #[.int .i64 ro, .string (str nm), .int .i64 0, .string (str tk), .string (str lv), .bool fx] 36) = W1 at *
  generalize w1.heap.size = g8 at *
  have a0 := HW.out.a.at (k := 0) (v := .int .i64 ta) rfl
  have b0 := HW.out.b.at (k := 0) (v := .int .i64 tb) rfl
  have c0 := HW.out.c.at (k := 0) (v := .int .i64 tc) rfl
  have fa := HW.out.a.free 0
  have fb := HW.out.b.free 0
  have fc := HW.out.c.free 0
  have ne1 : w.heap.size ≠ w.heap.size + 1 := by omega
  have ne2 : w.heap.size ≠ w.heap.size + 1 + 1 := by omega
  go_upto_region 6 with fail
  have HV := hid (HW.out.set (.int .i64 123) (.int .i64 123) (.int .i64 123))
  have HRV := hid (((HRW.out.far (c := w.heap.size) (o := 0) (by omega) (.int .i64 123)).far (c := w.heap.size + 1) (o := 0) (by omega) (.int .i64 123)).far (c := w.heap.size + 2) (o := 0) (by omega) (.int .i64 123))
  clear HW HRW a0 b0 c0 fa fb fc
  generalize ((W1.setCell ⟨w.heap.size, 0, none⟩ (.int .i64 123)).setCell ⟨w.heap.size + 1, 0, none⟩ (.int .i64 123)).setCell ⟨w.heap.size + 2, 0, none⟩ (.int .i64 123) = W2 at *
  have r3 := HRV.out.at (k := 3) (v := .string (str tk)) rfl
  go_upto_region 8 with (go_at_call 25; refine (HT _).out.mono ?_; rintro e w2 ⟨v2, rfl, ho2, hb2⟩; have HO2 := hid ho2; have HX2 := hid (HV.out.to hb2); have HR2 := hid (HRV.out.call hb2); clear ho2 hb2)
  obtain ⟨g2, c2, rfl⟩ : ∃ g cap, v2 = .slice (some ⟨g, 0, none⟩) 2 cap := owned_at HO2.out (by decide)
  have k0 : w2.cell? ⟨g2, 0, none⟩ = some (.int .i64 123) := HO2.out.cellAt 0 (by decide)
  have k1 : w2.cell? ⟨g2, 1, none⟩ = some (.int .i64 123) := HO2.out.cellAt 1 (by decide)
  have hg2 : g2 < w2.heap.size := (HO2.out.lt g2 rfl).2
  have HB2' := hid HX2.out.below
  have hs2 : w.heap.size + 2 < w2.heap.size := HX2.out.c.lt
  clear HV HRV r3 HX1
  go_wp2
  go_loopw [15, 17] (fun v15 vi wr => ∃ j : Nat, j ≤ 2 ∧ vi = .int .i64 j ∧ Hid (wr.ownsRow w2.heap.size 24 4 v15 j (if j = 0 then [] else if j = 1 then avc (123, alo, ahi, anl) else avc (123, alo, ahi, anl) ++ avc (123, blo, bhi, bnl))) ∧ Hid (Below w2.heap.size w2 wr)) (fun _ vi _ => 2 - (intOf vi).toNat)
  case atStart => exact ⟨0, by decide, rfl, World.ownsRow_nil w2 w2.heap.size 24 4, Below.refl _ _⟩
  case round =>
    obtain ⟨j, hj, rfl, HO, HB⟩ := hrel
    have HXr := hid (HX2.out.to HB.out)
    have hsz := HB.out.size
    rcases (show j = 0 ∨ j = 1 ∨ j = 2 by omega) with rfl | rfl | rfl
    · have kk := (HB.out.cell (p := ⟨g2, 0, none⟩) hg2).trans k0
      have HBA := hid ((HB.out.alloc hsz (.cells #[.int .i64 123, .int .u64 (alo : Nat), .int .u64 (ahi : Nat), .bool anl] 24)))
      rw [show ((0 : Nat) : Int) = 0 from rfl]
      have a0 := fun o => (HXr.out.a.alloc o).at (k := 0) (v := .int .i64 123) rfl
      have a1 := fun o => (HXr.out.a.alloc o).at (k := 1) (v := .int .u64 (alo : Nat)) rfl
      have a2 := fun o => (HXr.out.a.alloc o).at (k := 2) (v := .int .u64 (ahi : Nat)) rfl
      have a3 := fun o => (HXr.out.a.alloc o).at (k := 3) (v := .bool anl) rfl
      have b0 := fun o => (HXr.out.b.alloc o).at (k := 0) (v := .int .i64 123) rfl
      have b1 := fun o => (HXr.out.b.alloc o).at (k := 1) (v := .int .u64 (blo : Nat)) rfl
      have b2 := fun o => (HXr.out.b.alloc o).at (k := 2) (v := .int .u64 (bhi : Nat)) rfl
      have b3 := fun o => (HXr.out.b.alloc o).at (k := 3) (v := .bool bnl) rfl
      have c0 := fun o => (HXr.out.c.alloc o).at (k := 0) (v := .int .i64 123) rfl
      have c1 := fun o => (HXr.out.c.alloc o).at (k := 1) (v := .int .u64 (clo : Nat)) rfl
      have c2 := fun o => (HXr.out.c.alloc o).at (k := 2) (v := .int .u64 (chi : Nat)) rfl
      have c3 := fun o => (HXr.out.c.alloc o).at (k := 3) (v := .bool cnl) rfl
      go_wp2_with (at_builtin; refine append_val rfl _ _ rfl w2.heap.size _ _ _ 123 (alo : Nat) (ahi : Nat) anl ((HO.out.alloc _).alloc _) (by first | omega | (simp <;> omega)) (by omega) rfl (by rw [size_al, size_al]; rfl) ?_; intro v' w3 hown' hnx3 hsz3)
      go_roundw
      case rel => exact ⟨0 + 1, by decide, by go_num, hown', ((HB.out.alloc hsz _).alloc (by first | omega | (simp <;> omega)) _).trans hnx3⟩
      case measure => simp [intOf]
    · have kk := (HB.out.cell (p := ⟨g2, 1, none⟩) hg2).trans k1
      have HBA := hid ((HB.out.alloc hsz (.cells #[.int .i64 123, .int .u64 (blo : Nat), .int .u64 (bhi : Nat), .bool bnl] 24)))
      rw [show ((1 : Nat) : Int) = 1 from rfl]
      have a0 := fun o => (HXr.out.a.alloc o).at (k := 0) (v := .int .i64 123) rfl
      have a1 := fun o => (HXr.out.a.alloc o).at (k := 1) (v := .int .u64 (alo : Nat)) rfl
      have a2 := fun o => (HXr.out.a.alloc o).at (k := 2) (v := .int .u64 (ahi : Nat)) rfl
      have a3 := fun o => (HXr.out.a.alloc o).at (k := 3) (v := .bool anl) rfl
      have b0 := fun o => (HXr.out.b.alloc o).at (k := 0) (v := .int .i64 123) rfl
      have b1 := fun o => (HXr.out.b.alloc o).at (k := 1) (v := .int .u64 (blo : Nat)) rfl
      have b2 := fun o => (HXr.out.b.alloc o).at (k := 2) (v := .int .u64 (bhi : Nat)) rfl
      have b3 := fun o => (HXr.out.b.alloc o).at (k := 3) (v := .bool bnl) rfl
      have c0 := fun o => (HXr.out.c.alloc o).at (k := 0) (v := .int .i64 123) rfl
      have c1 := fun o => (HXr.out.c.alloc o).at (k := 1) (v := .int .u64 (clo : Nat)) rfl
      have c2 := fun o => (HXr.out.c.alloc o).at (k := 2) (v := .int .u64 (chi : Nat)) rfl
      have c3 := fun o => (HXr.out.c.alloc o).at (k := 3) (v := .bool cnl) rfl
      go_wp2_with (at_builtin; refine append_val rfl _ _ rfl w2.heap.size _ _ _ 123 (blo : Nat) (bhi : Nat) bnl ((HO.out.alloc _).alloc _) (by first | omega | (simp <;> omega)) (by omega) rfl (by rw [size_al, size_al]; rfl) ?_; intro v' w3 hown' hnx3 hsz3)
      go_roundw
      case rel => exact ⟨1 + 1, by decide, by go_num, hown', ((HB.out.alloc hsz _).alloc (by first | omega | (simp <;> omega)) _).trans hnx3⟩
      case measure => simp [intOf]
    · have hRr := HR2.out.call HB.out
      have r2 := hRr.at (k := 2) (v := .int .i64 0) rfl
      have HA := hid (AR.of2 (HO.out))
      have HBw := hid (HB2'.out.trans (HB.out.mono HB2'.out.size))
      clear HO hRr
      go_wp2
      go_loopw [19, 20] (fun v19 vi ws => v19 = .slice none 0 0 ∧ vi = .int .i64 0 ∧ ws = wr) (fun _ _ _ => 1)
      case atStart => exact ⟨rfl, rfl, rfl⟩
      case round =>
        obtain ⟨rfl, rfl, rfl⟩ := hrel
        have HP1 := HPP _ _ HBw.out HA.out
        go_upto_region 23 with (go_at_call 20; (with_reducible refine HP1.out.mono ?_); rintro e w5 ⟨rfl, hb5⟩; have HA5 := hid (HA.out.call hb5); have HB5 := hid (HBw.out.trans (hb5.mono HBw.out.size)); clear hb5)
        have HB6 := hid (HB5.out.alloc HB5.out.size (.cells #[.int .i64 123, .int .u64 (lo : Nat), .int .u64 (hi : Nat), .bool false] 24))
        have HC6 := hid (CA.new w5 #[.int .i64 123, .int .u64 (lo : Nat), .int .u64 (hi : Nat), .bool false] 24)
        have HA6 := hid (HA5.out.call ((Below.refl _ _).alloc (Nat.le_refl _) (.cells #[.int .i64 123, .int .u64 (lo : Nat), .int .u64 (hi : Nat), .bool false] 24)))
        generalize w5.alloc (.cells #[.int .i64 123, .int .u64 (lo : Nat), .int .u64 (hi : Nat), .bool false] 24) = W6 at *
        generalize w5.heap.size = g6 at *
        have HR1 := HRR _ _ HB6.out HA6.out
        go_upto_region 24 with (go_at_call 38; (with_reducible refine HR1.out.mono ?_); rintro e w7 ⟨rfl, hb7⟩; have HB7 := hid (HB6.out.trans (hb7.mono HB6.out.size)); have HC7 := hid (HC6.out.call hb7); clear hb7)
        have HB8 := hid (HB7.out.alloc HB7.out.size (.cells #[.int .i64 123, .int .u64 (lo : Nat), .int .u64 (hi : Nat), .bool false] 24))
        have HC8 := CA.new w7 #[.int .i64 123, .int .u64 (lo : Nat), .int .u64 (hi : Nat), .bool false] 24
        have HD8 := HC7.out.alloc (.cells #[.int .i64 123, .int .u64 (lo : Nat), .int .u64 (hi : Nat), .bool false] 24)
        generalize w7.alloc (.cells #[.int .i64 123, .int .u64 (lo : Nat), .int .u64 (hi : Nat), .bool false] 24) = W8 at *
        generalize w7.heap.size = g8' at *
        have t0 := HC8.at (k := 0) (v := .int .i64 123) rfl
        have t1 := HC8.at (k := 1) (v := .int .u64 (lo : Nat)) rfl
        have t2 := HC8.at (k := 2) (v := .int .u64 (hi : Nat)) rfl
        have t3 := HC8.at (k := 3) (v := .bool false) rfl
        have s0 := HD8.at (k := 0) (v := .int .i64 123) rfl
        have s1 := HD8.at (k := 1) (v := .int .u64 (lo : Nat)) rfl
        have s2 := HD8.at (k := 2) (v := .int .u64 (hi : Nat)) rfl
        have s3 := HD8.at (k := 3) (v := .bool false) rfl
        go_wp2
        go_ret
        exact ⟨rfl, HB8.out⟩
end Go.Proofs.YtlhakbkdlgejpaaGreatDoor
namespace Go.Proofs.YtlhakbkdlgejpaaGreatDoor
open Go.RowKit
/-- A vector of two vectors' lanes, by the program. -/
theorem Do_each2 (op : Int) (nm vb : List UInt8) (n : Nat) (hn : Okn n) (ff tf : Bool) (fb : Int) (sg : Bool) (hnm : (lineL op).1 = str nm) (hpar : parV nm = insV vb tf n tf n sg) (hn1 : nm.length ≤ 1000) (hok : ((xsL nm).2 == 0) = false → 0 ≤ laL6 nm)
    (h64 : 64768 ≤ op) (hk : knB (lineL op) = true) (him : (lineL op).2.1 = 0) (hla : laL op = [123, 123]) (hlb : lbL op = [123]) (hv : eachV vb = true) (f : Nat → Nat → Nat) (HO : ∀ W, Calls Tryz.prog 72 #[insV vb tf n tf n sg] W (FnPost W f))
    (hf : ∀ x y, x < 18446744073709551616 → y < 18446744073709551616 → f x y < 18446744073709551616)
    (alo ahi blo bhi : Nat) (anl bnl : Bool) (h1 : alo < 18446744073709551616) (h2 : ahi < 18446744073709551616) (h3 : blo < 18446744073709551616) (h4 : bhi < 18446744073709551616)
    (w : World) (hg : Glob w) (va : Value) (ha : AR w va [(123, alo, ahi, anl), (123, blo, bhi, bnl)]) :
    Calls Tryz.prog 20 #[.int .i64 op, .slice none 0 0, va] w fun e w' => e = .returned (.tuple #[vv 123 (loF n (fun i => f (splitF n alo ahi i) (splitF n blo bhi i))) (hiF n (fun i => f (splitF n alo ahi i) (splitF n blo bhi i))) false, .int .i64 0]) ∧ Below w.heap.size w w' := by
  refine Do_vec op nm hnm vb tf n tf n hn sg hpar hn1 hok hlb (.slice none 0 0) va w hg ?_ _ ?_ ?_
  · intro W hW
    exact fits_says op h64 hk [] (by rw [him]; rfl) (fun x hx => by cases hx) [(123, alo, ahi, anl), (123, blo, bhi, bnl)] (by rw [hla]; rfl) (by simp) (by simp) (.slice none 0 0) va W.heap.size W (hg.next hW) (ha.call hW) (World.ownsRow_nil _ _ _ _)
  · intro i hi
    exact hf _ _ (splitF_u64 hn _ _ _) (splitF_u64 hn _ _ _)
  · intro W hW
    have hc1 : 1 ≤ cnt n := by rcases hn.cases with ⟨_, _, h⟩ | ⟨_, _, h⟩ | ⟨_, _, h⟩ | ⟨_, _, h⟩ <;> omega
    have hc16 : cnt n ≤ 16 := by rcases hn.cases with ⟨_, _, h⟩ | ⟨_, _, h⟩ | ⟨_, _, h⟩ | ⟨_, _, h⟩ <;> omega
    exact vector_each vb tf n tf n sg hv (.slice none 0 0) va (cnt n) hc1 hc16 _ _ f W
      (fun W2 h => operand_v vb tf n hn tf n sg va _ 0 alo ahi anl rfl h1 h2 W2 ((ha.call hW).call h))
      (fun W2 h => operand_v vb tf n hn tf n sg va _ 1 blo bhi bnl rfl h3 h4 W2 ((ha.call hW).call h))
      HO (fun i _ => splitF_u64 hn _ _ _) (fun i _ => splitF_u64 hn _ _ _)
theorem Do_low (op : Int) (h : op < 64768) (vi va : Value) (w : World) : Calls Tryz.prog 20 #[.int .i64 op, vi, va] w fun e w' => e = .returned (.tuple #[vv 0 0 0 false, .int .i64 1]) ∧ Below w.heap.size w w' := by
  have HF : ∀ W, Hid (Calls Tryz.prog 30 #[.int .i64 op, vi, va] W fun e w' => e = .returned (.bool false) ∧ W = w') := fun W => by
    have hd : decide (op < 64768) = true := decide_eq_true h
    go_enter Tryz.func30, Tryz.ntmps30
    go_wp2
    go_ret
    exact ⟨rfl, rfl⟩
  unfold vv
  clear h
  go_enter Tryz.func20, Tryz.ntmps20
  go_wp2_with (go_at_call 30; refine (HF _).out.mono ?_; rintro e w1 ⟨rfl, rfl⟩)
  refine bodyPost_ret (v := .tuple #[.agg #[.int .i64 0, .int .u64 0, .int .u64 0, .bool false], .int .i64 1]) (by simp [results, Tryz.results20, go_sem]) rfl ⟨rfl, ?_⟩
  exact (Below.refl _ _).alloc (Nat.le_refl _) _
end Go.Proofs.YtlhakbkdlgejpaaGreatDoor
namespace Go.Proofs.YtlhakbkdlgejpaaGreatDoor
open Go.RowKit
def biL (v : List UInt8) : Int := if (v == [105, 56, 120, 49, 54]) = true then 8 else if (v == [105, 49, 54, 120, 56]) = true then 16 else if (v == [105, 51, 50, 120, 52]) = true then 32 else if (v == [102, 51, 50, 120, 52]) = true then 32 else if (v == [105, 54, 52, 120, 50]) = true then 64 else if (v == [102, 54, 52, 120, 50]) = true then 64 else 0
set_option maxHeartbeats 2000000 in
set_option maxRecDepth 100000 in
theorem RBits_says (v : List UInt8) (w : World) : Calls Tryz.prog 123 #[.string (str v)] w fun e w' => e = .returned (.int .i64 (biL v)) ∧ w = w' := by
  obtain ⟨s, hs⟩ : ∃ s, s = str v := ⟨_, rfl⟩
  rw [← hs]
  cases h0 : (v == [105, 56, 120, 49, 54]) with
  | true =>
    have q0 : (s.toList == [105, 56, 120, 49, 54]) = true := by rw [hs, str_list]; exact h0
    have hv : Hid (biL v = 8) := by simp [Hid, biL, h0]
    clear h0 hs
    go_enter Tryz.func123, Tryz.ntmps123
    go_wp2
    go_ret
    exact ⟨ret_int hv.out.symm, rfl⟩
  | false =>
    cases h1 : (v == [105, 49, 54, 120, 56]) with
    | true =>
      have q0 : (s.toList == [105, 56, 120, 49, 54]) = false := by rw [hs, str_list]; exact h0
      have q1 : (s.toList == [105, 49, 54, 120, 56]) = true := by rw [hs, str_list]; exact h1
      have hv : Hid (biL v = 16) := by simp [Hid, biL, h0, h1]
      clear h0 h1 hs
      go_enter Tryz.func123, Tryz.ntmps123
      go_wp2
      go_ret
      exact ⟨ret_int hv.out.symm, rfl⟩
    | false =>
      cases h2 : (v == [105, 51, 50, 120, 52]) with
      | true =>
        have q0 : (s.toList == [105, 56, 120, 49, 54]) = false := by rw [hs, str_list]; exact h0
        have q1 : (s.toList == [105, 49, 54, 120, 56]) = false := by rw [hs, str_list]; exact h1
        have q2 : (s.toList == [105, 51, 50, 120, 52]) = true := by rw [hs, str_list]; exact h2
        have hv : Hid (biL v = 32) := by simp [Hid, biL, h0, h1, h2]
        clear h0 h1 h2 hs
        go_enter Tryz.func123, Tryz.ntmps123
        go_wp2
        go_ret
        exact ⟨ret_int hv.out.symm, rfl⟩
      | false =>
        cases h3 : (v == [102, 51, 50, 120, 52]) with
        | true =>
          have q0 : (s.toList == [105, 56, 120, 49, 54]) = false := by rw [hs, str_list]; exact h0
          have q1 : (s.toList == [105, 49, 54, 120, 56]) = false := by rw [hs, str_list]; exact h1
          have q2 : (s.toList == [105, 51, 50, 120, 52]) = false := by rw [hs, str_list]; exact h2
          have q3 : (s.toList == [102, 51, 50, 120, 52]) = true := by rw [hs, str_list]; exact h3
          have hv : Hid (biL v = 32) := by simp [Hid, biL, h0, h1, h2, h3]
          clear h0 h1 h2 h3 hs
          go_enter Tryz.func123, Tryz.ntmps123
          go_wp2
          go_ret
          exact ⟨ret_int hv.out.symm, rfl⟩
        | false =>
          cases h4 : (v == [105, 54, 52, 120, 50]) with
          | true =>
            have q0 : (s.toList == [105, 56, 120, 49, 54]) = false := by rw [hs, str_list]; exact h0
            have q1 : (s.toList == [105, 49, 54, 120, 56]) = false := by rw [hs, str_list]; exact h1
            have q2 : (s.toList == [105, 51, 50, 120, 52]) = false := by rw [hs, str_list]; exact h2
            have q3 : (s.toList == [102, 51, 50, 120, 52]) = false := by rw [hs, str_list]; exact h3
            have q4 : (s.toList == [105, 54, 52, 120, 50]) = true := by rw [hs, str_list]; exact h4
            have hv : Hid (biL v = 64) := by simp [Hid, biL, h0, h1, h2, h3, h4]
            clear h0 h1 h2 h3 h4 hs
            go_enter Tryz.func123, Tryz.ntmps123
            go_wp2
            go_ret
            exact ⟨ret_int hv.out.symm, rfl⟩
          | false =>
            cases h5 : (v == [102, 54, 52, 120, 50]) with
            | true =>
              have q0 : (s.toList == [105, 56, 120, 49, 54]) = false := by rw [hs, str_list]; exact h0
              have q1 : (s.toList == [105, 49, 54, 120, 56]) = false := by rw [hs, str_list]; exact h1
              have q2 : (s.toList == [105, 51, 50, 120, 52]) = false := by rw [hs, str_list]; exact h2
              have q3 : (s.toList == [102, 51, 50, 120, 52]) = false := by rw [hs, str_list]; exact h3
              have q4 : (s.toList == [105, 54, 52, 120, 50]) = false := by rw [hs, str_list]; exact h4
              have q5 : (s.toList == [102, 54, 52, 120, 50]) = true := by rw [hs, str_list]; exact h5
              have hv : Hid (biL v = 64) := by simp [Hid, biL, h0, h1, h2, h3, h4, h5]
              clear h0 h1 h2 h3 h4 h5 hs
              go_enter Tryz.func123, Tryz.ntmps123
              go_wp2
              go_ret
              exact ⟨ret_int hv.out.symm, rfl⟩
            | false =>
              have q0 : (s.toList == [105, 56, 120, 49, 54]) = false := by rw [hs, str_list]; exact h0
              have q1 : (s.toList == [105, 49, 54, 120, 56]) = false := by rw [hs, str_list]; exact h1
              have q2 : (s.toList == [105, 51, 50, 120, 52]) = false := by rw [hs, str_list]; exact h2
              have q3 : (s.toList == [102, 51, 50, 120, 52]) = false := by rw [hs, str_list]; exact h3
              have q4 : (s.toList == [105, 54, 52, 120, 50]) = false := by rw [hs, str_list]; exact h4
              have q5 : (s.toList == [102, 54, 52, 120, 50]) = false := by rw [hs, str_list]; exact h5
              have hv : Hid (biL v = 0) := by simp [Hid, biL, h0, h1, h2, h3, h4, h5]
              clear h0 h1 h2 h3 h4 h5 hs
              go_enter Tryz.func123, Tryz.ntmps123
              go_wp2
              go_ret
              exact ⟨ret_int hv.out.symm, rfl⟩
theorem index_first (l : List UInt8) (c : UInt8) : ∀ k : Nat, (∀ j : Nat, j < k → l[j]? ≠ some c) → l[k]? = some c → Lib.indexByte l c = k := by
  induction l with
  | nil => intro k _ h; simp at h
  | cons b l ih =>
    intro k hk h
    cases k with
    | zero =>
      have : b = c := by simpa using h
      unfold Lib.indexByte
      simp [this]
    | succ k =>
      have h0 : b ≠ c := by have := hk 0 (by omega); simpa using this
      have := ih k (fun j hj => by have := hk (j + 1) (by omega); simpa using this) (by simpa using h)
      unfold Lib.indexByte
      rw [this]
      (simp [h0] <;> omega)
theorem index_no (l : List UInt8) (c : UInt8) (h : ∀ j, j < l.length → l[j]? ≠ some c) : Lib.indexByte l c = -1 := by
  induction l with
  | nil => rfl
  | cons b l ih =>
    have h0 : b ≠ c := by have := h 0 (by simp); simpa using this
    have := ih (fun j hj => by have := h (j + 1) (by simpa using hj); simpa using this)
    unfold Lib.indexByte
    rw [this]
    simp [h0]
def headC (l : List UInt8) (c : UInt8) : List UInt8 := if 0 ≤ Lib.indexByte l c then l.take (Lib.indexByte l c).toNat else l
def tailC (l : List UInt8) (c : UInt8) : List UInt8 := if 0 ≤ Lib.indexByte l c then l.drop ((Lib.indexByte l c).toNat + 1) else []
theorem u8_eqc (x c : UInt8) : ((x.toNat : Int) == (c.toNat : Int)) = (x == c) := by
  rw [Bool.eq_iff_iff]
  simp only [beq_iff_eq]
  rw [Int.natCast_inj, UInt8.toNat_inj]
set_option maxHeartbeats 2000000 in
set_option maxRecDepth 100000 in
theorem RCut_says (l : List UInt8) (hl : l.length ≤ 1000) (c : UInt8) (ci : Int) (hc : ci = (c.toNat : Int)) (w : World) : Calls Tryz.prog 122 #[.string (str l), .int .u8 ci] w fun e w' => e = .returned (.tuple #[.string (str (headC l c)), .string (str (tailC l c))]) ∧ Below w.heap.size w w' := by
  obtain ⟨s, hs⟩ : ∃ s, s = str l := ⟨_, rfl⟩
  have z1 : s.size = l.length := by rw [hs, str_size]
  have HG : Hid (∀ k (h : k < l.length) (h' : k < s.size), s[k]'h' = l[k]) := fun k h h' => by subst hs; exact str_get l k h h'
  have HX : Hid (∀ k, k < l.length → (∀ j, j < k → l[j]? ≠ some c) → l[k]? = some c → str (headC l c) = s.extract 0 k ∧ str (tailC l c) = s.extract (k + 1) l.length) := by
    intro k hk h1 h2
    have e := index_first l c k h1 h2
    unfold headC tailC
    rw [e, if_pos (by omega), if_pos (by omega), hs, Int.toNat_natCast]
    refine ⟨(cut_str l k).symm, ?_⟩
    rw [ext_str l _ _ (by omega), List.take_of_length_le (by rw [List.length_drop]; omega)]
  have HY : Hid ((∀ j, j < l.length → l[j]? ≠ some c) → str (headC l c) = s ∧ str (tailC l c) = ⟨#[]⟩) := by
    intro h
    have e := index_no l c h
    unfold headC tailC
    rw [e, if_neg (by decide), if_neg (by decide), hs]
    exact ⟨rfl, rfl⟩
  rw [← hs]
  obtain ⟨n, hn⟩ : ∃ n, n = l.length := ⟨_, rfl⟩
  rw [← hn] at z1 hl HX HY
  have HN := hid hn
  have HCI := hid hc
  clear hs hn hc
  go_enter Tryz.func122, Tryz.ntmps122
  go_wp2
  go_loopw [6] (fun vi wr => ∃ k : Nat, k ≤ n ∧ vi = .int .i64 (k : Int) ∧ Hid (∀ j, j < k → l[j]? ≠ some c) ∧ wr = w) (fun vi _ => n - (intOf vi).toNat)
  case atStart => exact ⟨0, Nat.zero_le _, rfl, fun j hj => by omega, rfl⟩
  case round =>
    obtain ⟨k, hk, rfl, HJ, rfl⟩ := hrel
    by_cases hlt : k < n
    · have hkl : k < l.length := by rw [← HN.out]; exact hlt
      have hks : k < s.size := by omega
      have hxx : ((s[k].toNat : Int) == ci) = (l[k] == c) := by rw [HG.out k hkl hks, HCI.out]; exact u8_eqc _ _
      cases hb : (l[k] == c) with
      | true =>
        have hq : ((s[k].toNat : Int) == ci) = true := by rw [hxx, hb]
        have HE := hid (HX.out k hlt HJ.out (by rw [List.getElem?_eq_getElem hkl]; simpa using hb))
        have hw : wrap64 ((k : Int) + 1) = ((k + 1 : Nat) : Int) := by unfold wrap64; omega
        have hk1 : k + 1 ≤ n := hlt
        clear hb hxx
        go_wp2
        go_region
        go_wp2
        go_ret2
        exact ⟨by rw [HE.out.1, HE.out.2]; rfl, (Below.refl _ _).drew⟩
      | false =>
        have hq : ((s[k].toNat : Int) == ci) = false := by rw [hxx, hb]
        have HK : Hid (∀ j, j < k + 1 → l[j]? ≠ some c) := fun j hj => by
          rcases Nat.lt_or_ge j k with h | h
          · exact HJ.out j h
          · obtain rfl : j = k := by omega
            rw [List.getElem?_eq_getElem hkl]
            simpa using hb
        clear hb hxx
        go_wp2
        go_roundw
        case rel => exact ⟨k + 1, hlt, by go_num, HK, by first | trivial | rfl⟩
        case measure => simp [intOf]; omega
    · obtain rfl : k = n := by omega
      have HE := hid (HY.out HJ.out)
      go_wp2
      go_ret2
      exact ⟨by rw [HE.out.1, HE.out.2]; rfl, Below.refl _ _⟩
/-- Where a text stands among others. -/
def plL : List (List UInt8) → List UInt8 → Nat → Int
  | [], _, _ => -1
  | x :: t, s, k => if (x == s) = true then (k : Int) else plL t s (k + 1)
end Go.Proofs.YtlhakbkdlgejpaaGreatDoor
namespace Go.Proofs.YtlhakbkdlgejpaaGreatDoor
open Go.RowKit
set_option maxHeartbeats 4000000 in
set_option maxRecDepth 100000 in
theorem RSplit_says (n : Nat) (hn : Okn n) (t : Int) (lo hi : Nat) (nl : Bool) (hl : lo < 18446744073709551616) (hh : hi < 18446744073709551616) (w : World) :
    Calls Tryz.prog 126 #[.int .i64 n, vv t lo hi nl] w (LPost w (cnt n) (splitF n lo hi)) := by
  have HC := fun W => hid (Right_yes n hn W)
  have HXC := fun (a : Nat) (ha : a < 18446744073709551616) W => hid (Cut_any n hn a ha W)
  have hn8 := hn.le
  have hn0 : 0 < (n : Int) := by omega
  have HQ2 : Hid (cnt n = 2 * (64 / n)) := by show cnt n = 2 * (64 / n); rcases hn.cases with ⟨_, h, h'⟩ | ⟨_, h, h'⟩ | ⟨_, h, h'⟩ | ⟨_, h, h'⟩ <;> omega
  have HS := fun h j hh hj => hid (split_step hn lo hi h j hh hj)
  have hqi : (64 : Int) / (n : Int) = ((64 / n : Nat) : Int) := by simp
  have hq8 : 64 / n ≤ 8 := by rcases hn.cases with ⟨_, h, _⟩ | ⟨_, h, _⟩ | ⟨_, h, _⟩ | ⟨_, h, _⟩ <;> omega
  obtain ⟨q, hqe⟩ : ∃ q, q = 64 / n := ⟨_, rfl⟩
  rw [← hqe] at HQ2 HS hqi hq8
  have HL := hid hl
  have HH := hid hh
  obtain ⟨G, hG⟩ : ∃ G, G = splitF n lo hi := ⟨_, rfl⟩
  rw [← hG] at HS ⊢
  obtain ⟨c, hce⟩ : ∃ c, c = cnt n := ⟨_, rfl⟩
  rw [← hce] at HQ2 ⊢
  clear hce hn hqe hG hl hh
  unfold vv
  go_enter Tryz.func126, Tryz.ntmps126
  go_wp2_with (first
    | (go_at_call 196; refine (HC _).out.mono ?_; rintro e w' ⟨rfl, rfl⟩))
  have HW0 : Hid (Below w.heap.size w (w.alloc (.cells #[.int .i64 t, .int .u64 (lo : Nat), .int .u64 (hi : Nat), .bool nl] 24)) ∧ CA w.heap.size #[.int .i64 t, .int .u64 (lo : Nat), .int .u64 (hi : Nat), .bool nl] 24 (w.alloc (.cells #[.int .i64 t, .int .u64 (lo : Nat), .int .u64 (hi : Nat), .bool nl] 24)) ∧ (w.alloc (.cells #[.int .i64 t, .int .u64 (lo : Nat), .int .u64 (hi : Nat), .bool nl] 24)).heap.size = w.heap.size + 1) := ⟨(Below.refl _ _).alloc (Nat.le_refl _) _, CA.new w _ 24, by simp⟩
  generalize w.alloc (.cells #[.int .i64 t, .int .u64 (lo : Nat), .int .u64 (hi : Nat), .bool nl] 24) = W0 at *
  go_loopw [6, 7] (fun vo vi wr => ∃ h : Nat, h ≤ 2 ∧ vi = .int .i64 h ∧ wr.ownsRow (w.heap.size + 1) 22 1 vo (h * q) (fc (h * q) G) ∧ Below (w.heap.size + 1) W0 wr) (fun _ vi _ => 2 - (intOf vi).toNat)
  case atStart => exact ⟨0, Nat.zero_le _, rfl, by simpa [fc] using World.ownsRow_nil _ (w.heap.size + 1) 22 1, Below.refl _ _⟩
  case round =>
    obtain ⟨h, hh, rfl, hown, hB⟩ := hrel
    have hwr := hB.size
    rw [HW0.out.2.2] at hwr
    have hA := (HW0.out.2.1.below hB (by omega)).at (k := 1) (v := .int .u64 lo) rfl
    have hA2 := (HW0.out.2.1.below hB (by omega)).at (k := 2) (v := .int .u64 hi) rfl
    rcases (show h = 0 ∨ h = 1 ∨ h = 2 by omega) with rfl | rfl | rfl
    · have HW := hid hown
      have HBB := hid hB
      clear hown hB
      rw [show ((0 : Nat) : Int) = 0 from rfl]
      go_wp2
      go_loopw [6, 8, 9] (fun vo vw vi wr => ∃ j : Nat, j ≤ q ∧ vi = .int .i64 (j : Int) ∧ vw = .int .u64 ((lo / 2 ^ (n * j) : Nat) : Int) ∧ wr.ownsRow (w.heap.size + 1) 22 1 vo (0 * q + j) (fc (0 * q + j) G) ∧ Below (w.heap.size + 1) W0 wr) (fun _ _ vi _ => q - (intOf vi).toNat)
      case atStart => exact ⟨0, Nat.zero_le _, rfl, by rw [Nat.mul_zero, Nat.pow_zero, Nat.div_one], HW.out, HBB.out⟩
      case round =>
        obtain ⟨j, hj, rfl, rfl, hown, hB⟩ := hrel
        have hwr := hB.size
        rw [HW0.out.2.2] at hwr
        by_cases hlt : j < q
        · have hx : lo / 2 ^ (n * j) % 2 ^ n = G (0 * q + j) := (HS 0 j (by decide) hlt).out
          have hxl : lo / 2 ^ (n * j) < 18446744073709551616 := Nat.lt_of_le_of_lt (Nat.div_le_self _ _) HL.out
          have HX2 : Hid (∀ k, lo / 2 ^ (n * j) / 2 ^ k = lo / 2 ^ (n * j + k)) := fun k => by rw [Nat.div_div_eq_div_mul, ← Nat.pow_add]
          have HNJ : Hid (n * j + n = n * (j + 1)) := by show n * j + n = n * (j + 1); rw [Nat.mul_add, Nat.mul_one]
          obtain ⟨i, hie⟩ : ∃ i : Nat, i = 0 * q + j := ⟨_, rfl⟩
          rw [← hie] at hx hown
          obtain ⟨y, hy⟩ : ∃ y : Nat, y = lo / 2 ^ (n * j) := ⟨_, rfl⟩
          rw [← hy] at hx hxl HX2 ⊢
          have HCU : Hid (∀ W, Calls Tryz.prog 81 #[.int .i64 n, .int .u64 (y : Int)] W fun e w' => e = .returned (.int .u64 (G i : Nat)) ∧ W = w') := fun W => by
            have := (HXC y hxl W).out
            rw [hx] at this
            exact this
          have HSN := hid (fc_snoc i G)
          have HI := hid hie
          have hi8 : i ≤ 64 := by omega
          have HXL := hid hxl
          have HW2 := hid hown
          have HB2 := hid hB
          clear hown hB hx hxl hie hy
          go_wp2_with (first
            | (go_at_call 81; refine (HCU.out _).mono ?_; rintro e w' ⟨rfl, rfl⟩)
            | (at_builtin; refine append_u64 rfl _ _ rfl (w.heap.size + 1) _ _ _ (G i : Int) HW2.out hwr (by omega) rfl rfl ?_; intro v' w3 hown' hnx3 hsz3))
          have HO3 := hid hown'
          have HN3 := hid hnx3
          clear hown' hnx3
          go_loop [8, 10] (fun vw vk => ∃ k : Nat, k ≤ n ∧ vk = .int .i64 (k : Int) ∧ vw = .int .u64 ((y / 2 ^ k : Nat) : Int)) (fun _ vk => n - (intOf vk).toNat)
          case atStart => exact ⟨0, Nat.zero_le _, rfl, by rw [Nat.pow_zero, Nat.div_one]⟩
          case round =>
            obtain ⟨k, hk, rfl, rfl⟩ := hrel
            by_cases hkn : k < n
            · have e : ((y / 2 ^ k : Nat) : Int) / 2 = ((y / 2 ^ (k + 1) : Nat) : Int) := by
                rw [Nat.pow_succ, ← Nat.div_div_eq_div_mul]; simp
              have hl : y / 2 ^ (k + 1) < 18446744073709551616 := Nat.lt_of_le_of_lt (Nat.div_le_self _ _) HXL.out
              obtain ⟨z, hz⟩ : ∃ z : Nat, z = y / 2 ^ k := ⟨_, rfl⟩
              obtain ⟨z', hz'⟩ : ∃ z : Nat, z = y / 2 ^ (k + 1) := ⟨_, rfl⟩
              rw [← hz, ← hz'] at e
              rw [← hz'] at hl
              rw [← hz]
              have HZ := hid hz'
              clear hz hz'
              go_wp2
              go_round
              case rel => exact ⟨k + 1, by omega, by go_num, by rw [← HZ.out]⟩
              case measure => simp [intOf]; omega
            · obtain rfl : k = n := by omega
              have HX3 := hid (HX2.out k)
              obtain ⟨z, hz⟩ : ∃ z : Nat, z = y / 2 ^ k := ⟨_, rfl⟩
              rw [← hz] at HX3 ⊢
              clear hz HX2
              go_wp2
              go_roundw
              case rel => exact ⟨j + 1, by omega, by go_num, by rw [← HNJ.out, ← HX3.out], by rw [← Nat.add_assoc, ← HI.out, ← HSN.out]; exact HO3.out, HB2.out.trans HN3.out⟩
              case measure => simp [intOf]; omega
        · obtain rfl : j = q := by omega
          obtain ⟨z, hz⟩ : ∃ z : Nat, z = lo / 2 ^ (n * j) := ⟨_, rfl⟩
          rw [← hz]
          have HW2 := hid hown
          have HB2 := hid hB
          clear hown hB hz
          go_wp2
          go_roundw
          case rel => exact ⟨0 + 1, by omega, by go_num, by rw [show (0 + 1) * j = 0 * j + j by omega]; exact HW2.out, HB2.out⟩
          case measure => simp [intOf]
    · have HW := hid hown
      have HBB := hid hB
      clear hown hB
      rw [show ((1 : Nat) : Int) = 1 from rfl]
      go_wp2
      go_loopw [6, 8, 9] (fun vo vw vi wr => ∃ j : Nat, j ≤ q ∧ vi = .int .i64 (j : Int) ∧ vw = .int .u64 ((hi / 2 ^ (n * j) : Nat) : Int) ∧ wr.ownsRow (w.heap.size + 1) 22 1 vo (1 * q + j) (fc (1 * q + j) G) ∧ Below (w.heap.size + 1) W0 wr) (fun _ _ vi _ => q - (intOf vi).toNat)
      case atStart => exact ⟨0, Nat.zero_le _, rfl, by rw [Nat.mul_zero, Nat.pow_zero, Nat.div_one], HW.out, HBB.out⟩
      case round =>
        obtain ⟨j, hj, rfl, rfl, hown, hB⟩ := hrel
        have hwr := hB.size
        rw [HW0.out.2.2] at hwr
        by_cases hlt : j < q
        · have hx : hi / 2 ^ (n * j) % 2 ^ n = G (1 * q + j) := (HS 1 j (by decide) hlt).out
          have hxl : hi / 2 ^ (n * j) < 18446744073709551616 := Nat.lt_of_le_of_lt (Nat.div_le_self _ _) HH.out
          have HX2 : Hid (∀ k, hi / 2 ^ (n * j) / 2 ^ k = hi / 2 ^ (n * j + k)) := fun k => by rw [Nat.div_div_eq_div_mul, ← Nat.pow_add]
          have HNJ : Hid (n * j + n = n * (j + 1)) := by show n * j + n = n * (j + 1); rw [Nat.mul_add, Nat.mul_one]
          obtain ⟨i, hie⟩ : ∃ i : Nat, i = 1 * q + j := ⟨_, rfl⟩
          rw [← hie] at hx hown
          obtain ⟨y, hy⟩ : ∃ y : Nat, y = hi / 2 ^ (n * j) := ⟨_, rfl⟩
          rw [← hy] at hx hxl HX2 ⊢
          have HCU : Hid (∀ W, Calls Tryz.prog 81 #[.int .i64 n, .int .u64 (y : Int)] W fun e w' => e = .returned (.int .u64 (G i : Nat)) ∧ W = w') := fun W => by
            have := (HXC y hxl W).out
            rw [hx] at this
            exact this
          have HSN := hid (fc_snoc i G)
          have HI := hid hie
          have hi8 : i ≤ 64 := by omega
          have HXL := hid hxl
          have HW2 := hid hown
          have HB2 := hid hB
          clear hown hB hx hxl hie hy
          go_wp2_with (first
            | (go_at_call 81; refine (HCU.out _).mono ?_; rintro e w' ⟨rfl, rfl⟩)
            | (at_builtin; refine append_u64 rfl _ _ rfl (w.heap.size + 1) _ _ _ (G i : Int) HW2.out hwr (by omega) rfl rfl ?_; intro v' w3 hown' hnx3 hsz3))
          have HO3 := hid hown'
          have HN3 := hid hnx3
          clear hown' hnx3
          go_loop [8, 10] (fun vw vk => ∃ k : Nat, k ≤ n ∧ vk = .int .i64 (k : Int) ∧ vw = .int .u64 ((y / 2 ^ k : Nat) : Int)) (fun _ vk => n - (intOf vk).toNat)
          case atStart => exact ⟨0, Nat.zero_le _, rfl, by rw [Nat.pow_zero, Nat.div_one]⟩
          case round =>
            obtain ⟨k, hk, rfl, rfl⟩ := hrel
            by_cases hkn : k < n
            · have e : ((y / 2 ^ k : Nat) : Int) / 2 = ((y / 2 ^ (k + 1) : Nat) : Int) := by
                rw [Nat.pow_succ, ← Nat.div_div_eq_div_mul]; simp
              have hl : y / 2 ^ (k + 1) < 18446744073709551616 := Nat.lt_of_le_of_lt (Nat.div_le_self _ _) HXL.out
              obtain ⟨z, hz⟩ : ∃ z : Nat, z = y / 2 ^ k := ⟨_, rfl⟩
              obtain ⟨z', hz'⟩ : ∃ z : Nat, z = y / 2 ^ (k + 1) := ⟨_, rfl⟩
              rw [← hz, ← hz'] at e
              rw [← hz'] at hl
              rw [← hz]
              have HZ := hid hz'
              clear hz hz'
              go_wp2
              go_round
              case rel => exact ⟨k + 1, by omega, by go_num, by rw [← HZ.out]⟩
              case measure => simp [intOf]; omega
            · obtain rfl : k = n := by omega
              have HX3 := hid (HX2.out k)
              obtain ⟨z, hz⟩ : ∃ z : Nat, z = y / 2 ^ k := ⟨_, rfl⟩
              rw [← hz] at HX3 ⊢
              clear hz HX2
              go_wp2
              go_roundw
              case rel => exact ⟨j + 1, by omega, by go_num, by rw [← HNJ.out, ← HX3.out], by rw [← Nat.add_assoc, ← HI.out, ← HSN.out]; exact HO3.out, HB2.out.trans HN3.out⟩
              case measure => simp [intOf]; omega
        · obtain rfl : j = q := by omega
          obtain ⟨z, hz⟩ : ∃ z : Nat, z = hi / 2 ^ (n * j) := ⟨_, rfl⟩
          rw [← hz]
          have HW2 := hid hown
          have HB2 := hid hB
          clear hown hB hz
          go_wp2
          go_roundw
          case rel => exact ⟨1 + 1, by omega, by go_num, by rw [show (1 + 1) * j = 1 * j + j by omega]; exact HW2.out, HB2.out⟩
          case measure => simp [intOf]
    · have HW := hid hown
      have HBB := hid hB
      clear hown hB
      go_wp2
      go_ret
      exact ⟨_, rfl, by rw [HQ2.out]; exact own_mono HW.out (Nat.le_succ _), HW0.out.1.trans (HBB.out.mono (Nat.le_succ _))⟩
end Go.Proofs.YtlhakbkdlgejpaaGreatDoor
