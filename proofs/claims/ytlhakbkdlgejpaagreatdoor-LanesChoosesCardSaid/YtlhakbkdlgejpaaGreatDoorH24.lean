/-
  LCSome: merged, what the law does not reach left out (each text says what it holds where it lies in wip). No condition.
-/
import Derived.Test.YtlhakbkdlgejpaaGreatDoorH12
import Derived.Test.YtlhakbkdlgejpaaGreatDoorH19
import Derived.Test.YtlhakbkdlgejpaaGreatDoorH03
set_option linter.unusedSimpArgs false
set_option linter.unusedVariables false
set_option maxRecDepth 100000
namespace Go.Proofs.YtlhakbkdlgejpaaGreatDoor
open Go.RowKit
theorem and_mask (which : Int) (hw0 : -9223372036854775808 ≤ which) (hw1 : which ≤ 9223372036854775807) (m : Nat) (hm : m = 63 ∨ m = 31) : ∃ y : Nat, y ≤ m ∧ bits .and .i64 which (m : Int) = (y : Int) := by
  have hx : (BitVec.ofInt 64 which &&& BitVec.ofInt 64 (m : Int)).toNat ≤ m := by
    rw [BitVec.toNat_and]
    have e : (BitVec.ofInt 64 (m : Int)).toNat = m := by rcases hm with rfl | rfl <;> rfl
    rw [e]
    exact Nat.and_le_right
  refine ⟨_, hx, ?_⟩
  show IntKind.i64.wrap ((BitVec.ofInt 64 which &&& BitVec.ofInt 64 (m : Int)).toNat : Int) = _
  rw [IntKind.wrap_i64]
  omega
set_option maxHeartbeats 4000000 in
set_option maxRecDepth 100000 in
theorem some_s (LL : List Int) (hLL : 1 ≤ LL.length) (hLL2 : LL.length ≤ 60) (gl cl : Nat) (which : Int) (hw0 : -9223372036854775808 ≤ which) (hw1 : which ≤ 9223372036854775807) (ta tb tc : Int) (alo ahi blo bhi clo chi : Nat) (anl bnl cnl : Bool) (nn : Nat) (w : World) (hgl : gl < w.heap.size)
    (hcl : ∀ j, j < LL.length → w.cell? ⟨gl, j, none⟩ = some (.int .i64 (LL.getD j 0))) (y idx : Nat) (hyb : bits .and .i64 which 1023 = (y : Int)) (hidx : idx = y % LL.length) (hil : idx < LL.length) (op : Int) (hop : op = 64768 + LL.getD idx 0) (hopr : 64768 ≤ op ∧ op < 65024)
    (T : Int) (hT : (T == 123) = false) (ro : Int) (nm tk lv : List UInt8) (fx : Bool) (hr : ofL op = (ro, nm, 0, tk, lv, fx)) (htk : tk.length ≤ 100) (hty : tyL tk = [T]) (lo hi : Nat)
    (HP : ∀ W va, Below w.heap.size w W → AR W va ([(T, nn, 0, false)]) → Calls Tryz.prog 20 #[.int .i64 op, .slice none 0 0, va] W fun e w' => e = .returned (.tuple #[vv 123 lo hi false, .int .i64 0]) ∧ Below W.heap.size W w')
    (HR : ∀ W va, Below w.heap.size w W → AR W va ([(T, nn, 0, false)]) → Calls Tryz.prog 38 #[.int .i64 op, .slice none 0 0, va] W fun e w' => e = .returned (.tuple #[vv 123 lo hi false, .int .i64 0]) ∧ Below W.heap.size W w') :
    Calls Tryz.prog 21 #[.slice (some ⟨gl, 0, none⟩) LL.length cl, .int .i64 which, vv ta alo ahi anl, vv tb blo bhi bnl, vv tc clo chi cnl, .int .u64 (nn : Nat)] w fun e w' => e = .returned (.bool true) ∧ Below w.heap.size w w' := by
  have HO := fun W => hid (Of_says op W)
  rw [hr] at HO
  have HT := fun W => hid (reftypes_says tk htk W)
  rw [hty] at HT
  have HPP := fun W va h1 h2 => hid (HP W va h1 h2)
  have HRR := fun W va h1 h2 => hid (HR W va h1 h2)
  have hc := hcl idx hil
  obtain ⟨x, hx⟩ : ∃ x, x = LL.getD idx 0 := ⟨_, rfl⟩
  rw [← hx] at hc hop
  have hwo : wrap64 (64768 + x) = op := by rw [hop]; unfold wrap64; omega
  obtain ⟨m, hm⟩ : ∃ m, m = LL.length := ⟨_, rfl⟩
  rw [← hm] at hidx hil hLL hLL2 ⊢
  rw [hidx] at hc
  have hml : y % m < m := Nat.mod_lt _ hLL
  have hc3 : ∀ o1 o2 o3, (((w.alloc o1).alloc o2).alloc o3).cell? ⟨gl, y % m, none⟩ = some (.int .i64 x) := fun o1 o2 o3 => by
    rw [((((Below.refl _ w).alloc (Nat.le_refl _) o1).alloc (by simp) o2).alloc (by simp; omega) o3).cell (p := ⟨gl, y % m, none⟩) hgl]; exact hc
  have hm0 : ((m : Int) == 0) = false := by simp; omega
  have htm : ((y : Int)).tmod (m : Int) = ((y % m : Nat) : Int) := by rw [Int.tmod_eq_emod_of_nonneg (Int.natCast_nonneg _)]; simp
  unfold vv at HPP HRR ⊢
  unfold rwV at HO
  clear hr hty HP HR hcl hx hop hm hidx hil
  go_enter Tryz.func21, Tryz.ntmps21
  go_upto_region 3 with (first
    | (go_at_call 23; refine (HO _).out.mono ?_; rintro e w1 ⟨rfl, hb1⟩; have HX1 := hid (Bx.of hb1); clear hb1))
  have HW : Hid (Bx w #[.int .i64 ta, .int .u64 (alo : Nat), .int .u64 (ahi : Nat), .bool anl] #[.int .i64 tb, .int .u64 (blo : Nat), .int .u64 (bhi : Nat), .bool bnl] #[.int .i64 tc, .int .u64 (clo : Nat), .int .u64 (chi : Nat), .bool cnl] (w1.alloc (.cells #[.int .i64 ro, .string (str nm), .int .i64 0, .string (str tk), .string (str lv), .bool fx] 36))) := HX1.out.to ((Below.refl _ _).alloc (Nat.le_refl _) _)
  have HRW : Hid (CA w1.heap.size #[.int .i64 ro, .string (str nm), .int .i64 0, .string (str tk), .string (str lv), .bool fx] 36 (w1.alloc (.cells #[.int .i64 ro, .string (str nm), .int .i64 0, .string (str tk), .string (str lv), .bool fx] 36))) := CA.new w1 _ 36
  have hg8 : w.heap.size + 2 < w1.heap.size := HX1.out.c.lt
  generalize w1.alloc (.cells #[.int .i64 ro, .string (str nm), .int .i64 0, .string (str tk), .string (str lv), .bool fx] 36) = W1 at *
  generalize w1.heap.size = g8 at *
  have a0 := HW.out.a.at (k := 0) (v := .int .i64 ta) rfl
  have b0 := HW.out.b.at (k := 0) (v := .int .i64 tb) rfl
  have c0 := HW.out.c.at (k := 0) (v := .int .i64 tc) rfl
  have fa := HW.out.a.free 0
  have fb := HW.out.b.free 0
  have fc := HW.out.c.free 0
  have ne1 : w.heap.size ≠ w.heap.size + 1 := by omega
  have ne2 : w.heap.size ≠ w.heap.size + 1 + 1 := by omega
  go_upto_region 6 with fail
  have HV := hid (HW.out.set (.int .i64 123) (.int .i64 123) (.int .i64 123))
  have HRV := hid (((HRW.out.far (c := w.heap.size) (o := 0) (by omega) (.int .i64 123)).far (c := w.heap.size + 1) (o := 0) (by omega) (.int .i64 123)).far (c := w.heap.size + 2) (o := 0) (by omega) (.int .i64 123))
  clear HW HRW a0 b0 c0 fa fb fc
  generalize ((W1.setCell ⟨w.heap.size, 0, none⟩ (.int .i64 123)).setCell ⟨w.heap.size + 1, 0, none⟩ (.int .i64 123)).setCell ⟨w.heap.size + 2, 0, none⟩ (.int .i64 123) = W2 at *
  have r3 := HRV.out.at (k := 3) (v := .string (str tk)) rfl
  go_upto_region 8 with (go_at_call 25; refine (HT _).out.mono ?_; rintro e w2 ⟨v2, rfl, ho2, hb2⟩; have HO2 := hid ho2; have HX2 := hid (HV.out.to hb2); have HR2 := hid (HRV.out.call hb2); clear ho2 hb2)
  obtain ⟨g2, c2, rfl⟩ : ∃ g cap, v2 = .slice (some ⟨g, 0, none⟩) 1 cap := owned_at HO2.out (by decide)
  have k0 : w2.cell? ⟨g2, 0, none⟩ = some (.int .i64 T) := HO2.out.cellAt 0 (by decide)
  have hg2 : g2 < w2.heap.size := (HO2.out.lt g2 rfl).2
  have HB2' := hid HX2.out.below
  have hs2 : w.heap.size + 2 < w2.heap.size := HX2.out.c.lt
  clear HV HRV r3 HX1
  go_wp2
  go_loopw [15, 17] (fun v15 vi wr => ∃ j : Nat, j ≤ 1 ∧ vi = .int .i64 j ∧ Hid (wr.ownsRow w2.heap.size 24 4 v15 j (if j = 0 then [] else avc (T, nn, 0, false))) ∧ Hid (Below w2.heap.size w2 wr)) (fun _ vi _ => 1 - (intOf vi).toNat)
  case atStart => exact ⟨0, by decide, rfl, World.ownsRow_nil w2 w2.heap.size 24 4, Below.refl _ _⟩
  case round =>
    obtain ⟨j, hj, rfl, HO, HB⟩ := hrel
    have HXr := hid (HX2.out.to HB.out)
    have hsz := HB.out.size
    rcases (show j = 0 ∨ j = 1 by omega) with rfl | rfl
    · have kk := (HB.out.cell (p := ⟨g2, 0, none⟩) hg2).trans k0
      rw [show ((0 : Nat) : Int) = 0 from rfl]
      go_wp2_with (at_builtin; refine append_val rfl _ _ rfl w2.heap.size _ _ _ T (nn : Nat) 0 false (HO.out.alloc _) (by first | omega | (simp <;> omega)) (by omega) rfl (by rw [size_al]; rfl) ?_; intro v' w3 hown' hnx3 hsz3)
      go_roundw
      case rel => exact ⟨0 + 1, by decide, by go_num, hown', (HB.out.alloc hsz _).trans hnx3⟩
      case measure => simp [intOf]
    · have hRr := HR2.out.call HB.out
      have r2 := hRr.at (k := 2) (v := .int .i64 0) rfl
      have HA := hid (AR.of1 (HO.out))
      have HBw := hid (HB2'.out.trans (HB.out.mono HB2'.out.size))
      clear HO hRr
      go_wp2
      go_loopw [19, 20] (fun v19 vi ws => v19 = .slice none 0 0 ∧ vi = .int .i64 0 ∧ ws = wr) (fun _ _ _ => 1)
      case atStart => exact ⟨rfl, rfl, rfl⟩
      case round =>
        obtain ⟨rfl, rfl, rfl⟩ := hrel
        have HP1 := HPP _ _ HBw.out HA.out
        go_upto_region 23 with (go_at_call 20; (with_reducible refine HP1.out.mono ?_); rintro e w5 ⟨rfl, hb5⟩; have HA5 := hid (HA.out.call hb5); have HB5 := hid (HBw.out.trans (hb5.mono HBw.out.size)); clear hb5)
        have HB6 := hid (HB5.out.alloc HB5.out.size (.cells #[.int .i64 123, .int .u64 (lo : Nat), .int .u64 (hi : Nat), .bool false] 24))
        have HC6 := hid (CA.new w5 #[.int .i64 123, .int .u64 (lo : Nat), .int .u64 (hi : Nat), .bool false] 24)
        have HA6 := hid (HA5.out.call ((Below.refl _ _).alloc (Nat.le_refl _) (.cells #[.int .i64 123, .int .u64 (lo : Nat), .int .u64 (hi : Nat), .bool false] 24)))
        generalize w5.alloc (.cells #[.int .i64 123, .int .u64 (lo : Nat), .int .u64 (hi : Nat), .bool false] 24) = W6 at *
        generalize w5.heap.size = g6 at *
        have HR1 := HRR _ _ HB6.out HA6.out
        go_upto_region 24 with (go_at_call 38; (with_reducible refine HR1.out.mono ?_); rintro e w7 ⟨rfl, hb7⟩; have HB7 := hid (HB6.out.trans (hb7.mono HB6.out.size)); have HC7 := hid (HC6.out.call hb7); clear hb7)
        have HB8 := hid (HB7.out.alloc HB7.out.size (.cells #[.int .i64 123, .int .u64 (lo : Nat), .int .u64 (hi : Nat), .bool false] 24))
        have HC8 := CA.new w7 #[.int .i64 123, .int .u64 (lo : Nat), .int .u64 (hi : Nat), .bool false] 24
        have HD8 := HC7.out.alloc (.cells #[.int .i64 123, .int .u64 (lo : Nat), .int .u64 (hi : Nat), .bool false] 24)
        generalize w7.alloc (.cells #[.int .i64 123, .int .u64 (lo : Nat), .int .u64 (hi : Nat), .bool false] 24) = W8 at *
        generalize w7.heap.size = g8' at *
        have t0 := HC8.at (k := 0) (v := .int .i64 123) rfl
        have t1 := HC8.at (k := 1) (v := .int .u64 (lo : Nat)) rfl
        have t2 := HC8.at (k := 2) (v := .int .u64 (hi : Nat)) rfl
        have t3 := HC8.at (k := 3) (v := .bool false) rfl
        have s0 := HD8.at (k := 0) (v := .int .i64 123) rfl
        have s1 := HD8.at (k := 1) (v := .int .u64 (lo : Nat)) rfl
        have s2 := HD8.at (k := 2) (v := .int .u64 (hi : Nat)) rfl
        have s3 := HD8.at (k := 3) (v := .bool false) rfl
        go_wp2
        go_ret
        exact ⟨rfl, HB8.out⟩
set_option maxHeartbeats 4000000 in
set_option maxRecDepth 100000 in
theorem some_xl (LL : List Int) (hLL : 1 ≤ LL.length) (hLL2 : LL.length ≤ 60) (gl cl : Nat) (which : Int) (hw0 : -9223372036854775808 ≤ which) (hw1 : which ≤ 9223372036854775807) (ta tb tc : Int) (alo ahi blo bhi clo chi : Nat) (anl bnl cnl : Bool) (nn : Nat) (w : World) (hgl : gl < w.heap.size)
    (hcl : ∀ j, j < LL.length → w.cell? ⟨gl, j, none⟩ = some (.int .i64 (LL.getD j 0))) (y idx : Nat) (hyb : bits .and .i64 which 1023 = (y : Int)) (hidx : idx = y % LL.length) (hil : idx < LL.length) (op : Int) (hop : op = 64768 + LL.getD idx 0) (hopr : 64768 ≤ op ∧ op < 65024)
    (at_ y63 c : Nat) (hy63 : bits .and .i64 which 63 = (y63 : Int)) (hcl0 : refLanes (ofL op) = (c : Int)) (hc1 : 1 ≤ c) (hat_ : at_ = y63 % c) (ro : Int) (nm tk lv : List UInt8) (fx : Bool) (hr : ofL op = (ro, nm, 25, tk, lv, fx)) (htk : tk.length ≤ 100) (hty : tyL tk = [123]) (rt : Int) (lo hi : Nat)
    (HP : ∀ W va, Below w.heap.size w W → AR W va ([(123, alo, ahi, anl)]) → ∀ gi ci base, W.ownsRow base 3 1 (.slice (some ⟨gi, 0, none⟩) 1 ci) 1 (ic ([(at_ : Int)])) → Calls Tryz.prog 20 #[.int .i64 op, .slice (some ⟨gi, 0, none⟩) 1 ci, va] W fun e w' => e = .returned (.tuple #[vv rt lo hi false, .int .i64 0]) ∧ Below W.heap.size W w')
    (HR : ∀ W va, Below w.heap.size w W → AR W va ([(123, alo, ahi, anl)]) → ∀ gi ci base, W.ownsRow base 3 1 (.slice (some ⟨gi, 0, none⟩) 1 ci) 1 (ic ([(at_ : Int)])) → Calls Tryz.prog 38 #[.int .i64 op, .slice (some ⟨gi, 0, none⟩) 1 ci, va] W fun e w' => e = .returned (.tuple #[vv rt lo hi false, .int .i64 0]) ∧ Below W.heap.size W w') :
    Calls Tryz.prog 21 #[.slice (some ⟨gl, 0, none⟩) LL.length cl, .int .i64 which, vv ta alo ahi anl, vv tb blo bhi bnl, vv tc clo chi cnl, .int .u64 (nn : Nat)] w fun e w' => e = .returned (.bool true) ∧ Below w.heap.size w w' := by
  have HLN := fun W => hid (RLanes_says op W)
  rw [hcl0] at HLN
  have htm2 : ((y63 : Int)).tmod (c : Int) = ((y63 % c : Nat) : Int) := by rw [Int.tmod_eq_emod_of_nonneg (Int.natCast_nonneg _)]; simp
  rw [← hat_] at htm2
  have hc0 : ((c : Int) == 0) = false := by simp; omega
  have HO := fun W => hid (Of_says op W)
  rw [hr] at HO
  have HT := fun W => hid (reftypes_says tk htk W)
  rw [hty] at HT
  have HPP := fun W va h1 h2 gi ci base h3 => hid (HP W va h1 h2 gi ci base h3)
  have HRR := fun W va h1 h2 gi ci base h3 => hid (HR W va h1 h2 gi ci base h3)
  have hc := hcl idx hil
  obtain ⟨x, hx⟩ : ∃ x, x = LL.getD idx 0 := ⟨_, rfl⟩
  rw [← hx] at hc hop
  have hwo : wrap64 (64768 + x) = op := by rw [hop]; unfold wrap64; omega
  obtain ⟨m, hm⟩ : ∃ m, m = LL.length := ⟨_, rfl⟩
  rw [← hm] at hidx hil hLL hLL2 ⊢
  rw [hidx] at hc
  have hml : y % m < m := Nat.mod_lt _ hLL
  have hc3 : ∀ o1 o2 o3, (((w.alloc o1).alloc o2).alloc o3).cell? ⟨gl, y % m, none⟩ = some (.int .i64 x) := fun o1 o2 o3 => by
    rw [((((Below.refl _ w).alloc (Nat.le_refl _) o1).alloc (by simp) o2).alloc (by simp; omega) o3).cell (p := ⟨gl, y % m, none⟩) hgl]; exact hc
  have hm0 : ((m : Int) == 0) = false := by simp; omega
  have htm : ((y : Int)).tmod (m : Int) = ((y % m : Nat) : Int) := by rw [Int.tmod_eq_emod_of_nonneg (Int.natCast_nonneg _)]; simp
  unfold vv at HPP HRR ⊢
  unfold rwV at HO
  clear hcl0 hat_ hr hty HP HR hcl hx hop hm hidx hil
  go_enter Tryz.func21, Tryz.ntmps21
  go_upto_region 3 with (first
    | (go_at_call 23; refine (HO _).out.mono ?_; rintro e w1 ⟨rfl, hb1⟩; have HX1 := hid (Bx.of hb1); clear hb1))
  have HW : Hid (Bx w #[.int .i64 ta, .int .u64 (alo : Nat), .int .u64 (ahi : Nat), .bool anl] #[.int .i64 tb, .int .u64 (blo : Nat), .int .u64 (bhi : Nat), .bool bnl] #[.int .i64 tc, .int .u64 (clo : Nat), .int .u64 (chi : Nat), .bool cnl] (w1.alloc (.cells #[.int .i64 ro, .string (str nm), .int .i64 25, .string (str tk), .string (str lv), .bool fx] 36))) := HX1.out.to ((Below.refl _ _).alloc (Nat.le_refl _) _)
  have HRW : Hid (CA w1.heap.size #[.int .i64 ro, .string (str nm), .int .i64 25, .string (str tk), .string (str lv), .bool fx] 36 (w1.alloc (.cells #[.int .i64 ro, .string (str nm), .int .i64 25, .string (str tk), .string (str lv), .bool fx] 36))) := CA.new w1 _ 36
  have hg8 : w.heap.size + 2 < w1.heap.size := HX1.out.c.lt
  generalize w1.alloc (.cells #[.int .i64 ro, .string (str nm), .int .i64 25, .string (str tk), .string (str lv), .bool fx] 36) = W1 at *
  generalize w1.heap.size = g8 at *
  have a0 := HW.out.a.at (k := 0) (v := .int .i64 ta) rfl
  have b0 := HW.out.b.at (k := 0) (v := .int .i64 tb) rfl
  have c0 := HW.out.c.at (k := 0) (v := .int .i64 tc) rfl
  have fa := HW.out.a.free 0
  have fb := HW.out.b.free 0
  have fc := HW.out.c.free 0
  have ne1 : w.heap.size ≠ w.heap.size + 1 := by omega
  have ne2 : w.heap.size ≠ w.heap.size + 1 + 1 := by omega
  go_upto_region 6 with fail
  have HV := hid (HW.out.set (.int .i64 123) (.int .i64 123) (.int .i64 123))
  have HRV := hid (((HRW.out.far (c := w.heap.size) (o := 0) (by omega) (.int .i64 123)).far (c := w.heap.size + 1) (o := 0) (by omega) (.int .i64 123)).far (c := w.heap.size + 2) (o := 0) (by omega) (.int .i64 123))
  clear HW HRW a0 b0 c0 fa fb fc
  generalize ((W1.setCell ⟨w.heap.size, 0, none⟩ (.int .i64 123)).setCell ⟨w.heap.size + 1, 0, none⟩ (.int .i64 123)).setCell ⟨w.heap.size + 2, 0, none⟩ (.int .i64 123) = W2 at *
  have r3 := HRV.out.at (k := 3) (v := .string (str tk)) rfl
  go_upto_region 8 with (go_at_call 25; refine (HT _).out.mono ?_; rintro e w2 ⟨v2, rfl, ho2, hb2⟩; have HO2 := hid ho2; have HX2 := hid (HV.out.to hb2); have HR2 := hid (HRV.out.call hb2); clear ho2 hb2)
  obtain ⟨g2, c2, rfl⟩ : ∃ g cap, v2 = .slice (some ⟨g, 0, none⟩) 1 cap := owned_at HO2.out (by decide)
  have k0 : w2.cell? ⟨g2, 0, none⟩ = some (.int .i64 123) := HO2.out.cellAt 0 (by decide)
  have hg2 : g2 < w2.heap.size := (HO2.out.lt g2 rfl).2
  have HB2' := hid HX2.out.below
  have hs2 : w.heap.size + 2 < w2.heap.size := HX2.out.c.lt
  clear HV HRV r3 HX1
  go_wp2
  go_loopw [15, 17] (fun v15 vi wr => ∃ j : Nat, j ≤ 1 ∧ vi = .int .i64 j ∧ Hid (wr.ownsRow w2.heap.size 24 4 v15 j (if j = 0 then [] else avc (123, alo, ahi, anl))) ∧ Hid (Below w2.heap.size w2 wr)) (fun _ vi _ => 1 - (intOf vi).toNat)
  case atStart => exact ⟨0, by decide, rfl, World.ownsRow_nil w2 w2.heap.size 24 4, Below.refl _ _⟩
  case round =>
    obtain ⟨j, hj, rfl, HO, HB⟩ := hrel
    have HXr := hid (HX2.out.to HB.out)
    have hsz := HB.out.size
    rcases (show j = 0 ∨ j = 1 by omega) with rfl | rfl
    · have kk := (HB.out.cell (p := ⟨g2, 0, none⟩) hg2).trans k0
      have HBA := hid ((HB.out.alloc hsz (.cells #[.int .i64 123, .int .u64 (alo : Nat), .int .u64 (ahi : Nat), .bool anl] 24)))
      rw [show ((0 : Nat) : Int) = 0 from rfl]
      have a0 := fun o => (HXr.out.a.alloc o).at (k := 0) (v := .int .i64 123) rfl
      have a1 := fun o => (HXr.out.a.alloc o).at (k := 1) (v := .int .u64 (alo : Nat)) rfl
      have a2 := fun o => (HXr.out.a.alloc o).at (k := 2) (v := .int .u64 (ahi : Nat)) rfl
      have a3 := fun o => (HXr.out.a.alloc o).at (k := 3) (v := .bool anl) rfl
      have b0 := fun o => (HXr.out.b.alloc o).at (k := 0) (v := .int .i64 123) rfl
      have b1 := fun o => (HXr.out.b.alloc o).at (k := 1) (v := .int .u64 (blo : Nat)) rfl
      have b2 := fun o => (HXr.out.b.alloc o).at (k := 2) (v := .int .u64 (bhi : Nat)) rfl
      have b3 := fun o => (HXr.out.b.alloc o).at (k := 3) (v := .bool bnl) rfl
      have c0 := fun o => (HXr.out.c.alloc o).at (k := 0) (v := .int .i64 123) rfl
      have c1 := fun o => (HXr.out.c.alloc o).at (k := 1) (v := .int .u64 (clo : Nat)) rfl
      have c2 := fun o => (HXr.out.c.alloc o).at (k := 2) (v := .int .u64 (chi : Nat)) rfl
      have c3 := fun o => (HXr.out.c.alloc o).at (k := 3) (v := .bool cnl) rfl
      go_wp2_with (at_builtin; refine append_val rfl _ _ rfl w2.heap.size _ _ _ 123 (alo : Nat) (ahi : Nat) anl ((HO.out.alloc _).alloc _) (by first | omega | (simp <;> omega)) (by omega) rfl (by rw [size_al, size_al]; rfl) ?_; intro v' w3 hown' hnx3 hsz3)
      go_roundw
      case rel => exact ⟨0 + 1, by decide, by go_num, hown', ((HB.out.alloc hsz _).alloc (by first | omega | (simp <;> omega)) _).trans hnx3⟩
      case measure => simp [intOf]
    · have hRr := HR2.out.call HB.out
      have r2 := hRr.at (k := 2) (v := .int .i64 25) rfl
      have HA := hid (AR.of1 (HO.out))
      have HBw := hid (HB2'.out.trans (HB.out.mono HB2'.out.size))
      clear HO hRr
      have HRr2 := hid (HR2.out.call HB.out)
      go_upto_region 18 with (first
        | (go_at_call 37; (with_reducible refine (HLN _).out.mono ?_); rintro e w4 ⟨rfl, hb4⟩; have HB4 := hid (HBw.out.trans (hb4.mono HBw.out.size)); have HA4 := hid (HA.out.call hb4); have HR4 := hid (HRr2.out.call hb4); have HZ := hid (World.ownsRow_nil w4 w4.heap.size 3 1); clear hb4)
        | (at_builtin; refine append_int rfl _ _ rfl w4.heap.size _ _ _ (at_ : Int) HZ.out (Nat.le_refl _) (by omega) rfl rfl ?_; intro v' w8 hown' hnx8 hsz8; have HO8 := hid hown'; have HA8 := hid (HA4.out.call hnx8); have HB8' := hid (HB4.out.trans (hnx8.mono HB4.out.size)); have HR8 := hid (HR4.out.call hnx8); clear hown' hnx8 hsz8))
      obtain ⟨gi, ci, rfl⟩ := owned_at HO8.out (by decide)
      have r2' := HR8.out.at (k := 2) (v := .int .i64 25) rfl
      have hb0 : w4.heap.size ≤ w4.heap.size := Nat.le_refl _
      have HO9 : Hid (w8.ownsRow w4.heap.size 3 1 (.slice (some ⟨gi, 0, none⟩) 1 ci) 1 (ic [(at_ : Int)])) := HO8
      generalize w4.heap.size = base4 at *
      clear HA HBw HRr2 HB4 HA4 HR4 HZ HO8 HR8 r2
      go_wp2_with fail
      go_loopw [19, 20] (fun v19 vi ws => v19 = .slice (some ⟨gi, 0, none⟩) 1 ci ∧ vi = .int .i64 0 ∧ ws = w8) (fun _ _ _ => 1)
      case atStart => exact ⟨rfl, rfl, rfl⟩
      case round =>
        obtain ⟨rfl, rfl, rfl⟩ := hrel
        have HA := HA8
        have HP1 := HPP _ _ HB8'.out HA8.out gi ci base4 HO9.out
        have HBw := HB8'
        have HOI := HO9
        go_upto_region 23 with (go_at_call 20; (with_reducible refine HP1.out.mono ?_); rintro e w5 ⟨rfl, hb5⟩; have HA5 := hid (HA.out.call hb5); have HO5 := hid (own_below HOI.out hb5 (Nat.le_refl _)); have HB5 := hid (HBw.out.trans (hb5.mono HBw.out.size)); clear hb5)
        have HB6 := hid (HB5.out.alloc HB5.out.size (.cells #[.int .i64 rt, .int .u64 (lo : Nat), .int .u64 (hi : Nat), .bool false] 24))
        have HC6 := hid (CA.new w5 #[.int .i64 rt, .int .u64 (lo : Nat), .int .u64 (hi : Nat), .bool false] 24)
        have HA6 := hid (HA5.out.call ((Below.refl _ _).alloc (Nat.le_refl _) (.cells #[.int .i64 rt, .int .u64 (lo : Nat), .int .u64 (hi : Nat), .bool false] 24)))
        have HO6 := hid (own_below HO5.out ((Below.refl _ _).alloc (Nat.le_refl _) (.cells #[.int .i64 rt, .int .u64 (lo : Nat), .int .u64 (hi : Nat), .bool false] 24)) (Nat.le_refl _))
        generalize w5.alloc (.cells #[.int .i64 rt, .int .u64 (lo : Nat), .int .u64 (hi : Nat), .bool false] 24) = W6 at *
        generalize w5.heap.size = g6 at *
        have HR1 := HRR _ _ HB6.out HA6.out gi ci _ HO6.out
        go_upto_region 24 with (go_at_call 38; (with_reducible refine HR1.out.mono ?_); rintro e w7 ⟨rfl, hb7⟩; have HB7 := hid (HB6.out.trans (hb7.mono HB6.out.size)); have HC7 := hid (HC6.out.call hb7); clear hb7)
        have HB8 := hid (HB7.out.alloc HB7.out.size (.cells #[.int .i64 rt, .int .u64 (lo : Nat), .int .u64 (hi : Nat), .bool false] 24))
        have HC8 := CA.new w7 #[.int .i64 rt, .int .u64 (lo : Nat), .int .u64 (hi : Nat), .bool false] 24
        have HD8 := HC7.out.alloc (.cells #[.int .i64 rt, .int .u64 (lo : Nat), .int .u64 (hi : Nat), .bool false] 24)
        generalize w7.alloc (.cells #[.int .i64 rt, .int .u64 (lo : Nat), .int .u64 (hi : Nat), .bool false] 24) = W8 at *
        generalize w7.heap.size = g8' at *
        have t0 := HC8.at (k := 0) (v := .int .i64 rt) rfl
        have t1 := HC8.at (k := 1) (v := .int .u64 (lo : Nat)) rfl
        have t2 := HC8.at (k := 2) (v := .int .u64 (hi : Nat)) rfl
        have t3 := HC8.at (k := 3) (v := .bool false) rfl
        have s0 := HD8.at (k := 0) (v := .int .i64 rt) rfl
        have s1 := HD8.at (k := 1) (v := .int .u64 (lo : Nat)) rfl
        have s2 := HD8.at (k := 2) (v := .int .u64 (hi : Nat)) rfl
        have s3 := HD8.at (k := 3) (v := .bool false) rfl
        go_wp2
        go_ret
        exact ⟨rfl, HB8.out⟩
set_option maxHeartbeats 4000000 in
set_option maxRecDepth 100000 in
theorem some_rl (LL : List Int) (hLL : 1 ≤ LL.length) (hLL2 : LL.length ≤ 60) (gl cl : Nat) (which : Int) (hw0 : -9223372036854775808 ≤ which) (hw1 : which ≤ 9223372036854775807) (ta tb tc : Int) (alo ahi blo bhi clo chi : Nat) (anl bnl cnl : Bool) (nn : Nat) (w : World) (hgl : gl < w.heap.size)
    (hcl : ∀ j, j < LL.length → w.cell? ⟨gl, j, none⟩ = some (.int .i64 (LL.getD j 0))) (y idx : Nat) (hyb : bits .and .i64 which 1023 = (y : Int)) (hidx : idx = y % LL.length) (hil : idx < LL.length) (op : Int) (hop : op = 64768 + LL.getD idx 0) (hopr : 64768 ≤ op ∧ op < 65024)
    (T : Int) (hT : (T == 123) = false) (at_ y63 c : Nat) (hy63 : bits .and .i64 which 63 = (y63 : Int)) (hcl0 : refLanes (ofL op) = (c : Int)) (hc1 : 1 ≤ c) (hat_ : at_ = y63 % c) (ro : Int) (nm tk lv : List UInt8) (fx : Bool) (hr : ofL op = (ro, nm, 25, tk, lv, fx)) (htk : tk.length ≤ 100) (hty : tyL tk = [123, T]) (lo hi : Nat)
    (HP : ∀ W va, Below w.heap.size w W → AR W va ([(123, alo, ahi, anl), (T, nn, 0, false)]) → ∀ gi ci base, W.ownsRow base 3 1 (.slice (some ⟨gi, 0, none⟩) 1 ci) 1 (ic ([(at_ : Int)])) → Calls Tryz.prog 20 #[.int .i64 op, .slice (some ⟨gi, 0, none⟩) 1 ci, va] W fun e w' => e = .returned (.tuple #[vv 123 lo hi false, .int .i64 0]) ∧ Below W.heap.size W w')
    (HR : ∀ W va, Below w.heap.size w W → AR W va ([(123, alo, ahi, anl), (T, nn, 0, false)]) → ∀ gi ci base, W.ownsRow base 3 1 (.slice (some ⟨gi, 0, none⟩) 1 ci) 1 (ic ([(at_ : Int)])) → Calls Tryz.prog 38 #[.int .i64 op, .slice (some ⟨gi, 0, none⟩) 1 ci, va] W fun e w' => e = .returned (.tuple #[vv 123 lo hi false, .int .i64 0]) ∧ Below W.heap.size W w') :
    Calls Tryz.prog 21 #[.slice (some ⟨gl, 0, none⟩) LL.length cl, .int .i64 which, vv ta alo ahi anl, vv tb blo bhi bnl, vv tc clo chi cnl, .int .u64 (nn : Nat)] w fun e w' => e = .returned (.bool true) ∧ Below w.heap.size w w' := by
  have HLN := fun W => hid (RLanes_says op W)
  rw [hcl0] at HLN
  have htm2 : ((y63 : Int)).tmod (c : Int) = ((y63 % c : Nat) : Int) := by rw [Int.tmod_eq_emod_of_nonneg (Int.natCast_nonneg _)]; simp
  rw [← hat_] at htm2
  have hc0 : ((c : Int) == 0) = false := by simp; omega
  have HO := fun W => hid (Of_says op W)
  rw [hr] at HO
  have HT := fun W => hid (reftypes_says tk htk W)
  rw [hty] at HT
  have HPP := fun W va h1 h2 gi ci base h3 => hid (HP W va h1 h2 gi ci base h3)
  have HRR := fun W va h1 h2 gi ci base h3 => hid (HR W va h1 h2 gi ci base h3)
  have hc := hcl idx hil
  obtain ⟨x, hx⟩ : ∃ x, x = LL.getD idx 0 := ⟨_, rfl⟩
  rw [← hx] at hc hop
  have hwo : wrap64 (64768 + x) = op := by rw [hop]; unfold wrap64; omega
  obtain ⟨m, hm⟩ : ∃ m, m = LL.length := ⟨_, rfl⟩
  rw [← hm] at hidx hil hLL hLL2 ⊢
  rw [hidx] at hc
  have hml : y % m < m := Nat.mod_lt _ hLL
  have hc3 : ∀ o1 o2 o3, (((w.alloc o1).alloc o2).alloc o3).cell? ⟨gl, y % m, none⟩ = some (.int .i64 x) := fun o1 o2 o3 => by
    rw [((((Below.refl _ w).alloc (Nat.le_refl _) o1).alloc (by simp) o2).alloc (by simp; omega) o3).cell (p := ⟨gl, y % m, none⟩) hgl]; exact hc
  have hm0 : ((m : Int) == 0) = false := by simp; omega
  have htm : ((y : Int)).tmod (m : Int) = ((y % m : Nat) : Int) := by rw [Int.tmod_eq_emod_of_nonneg (Int.natCast_nonneg _)]; simp
  unfold vv at HPP HRR ⊢
  unfold rwV at HO
  clear hcl0 hat_ hr hty HP HR hcl hx hop hm hidx hil
  go_enter Tryz.func21, Tryz.ntmps21
  go_upto_region 3 with (first
    | (go_at_call 23; refine (HO _).out.mono ?_; rintro e w1 ⟨rfl, hb1⟩; have HX1 := hid (Bx.of hb1); clear hb1))
  have HW : Hid (Bx w #[.int .i64 ta, .int .u64 (alo : Nat), .int .u64 (ahi : Nat), .bool anl] #[.int .i64 tb, .int .u64 (blo : Nat), .int .u64 (bhi : Nat), .bool bnl] #[.int .i64 tc, .int .u64 (clo : Nat), .int .u64 (chi : Nat), .bool cnl] (w1.alloc (.cells #[.int .i64 ro, .string (str nm), .int .i64 25, .string (str tk), .string (str lv), .bool fx] 36))) := HX1.out.to ((Below.refl _ _).alloc (Nat.le_refl _) _)
  have HRW : Hid (CA w1.heap.size #[.int .i64 ro, .string (str nm), .int .i64 25, .string (str tk), .string (str lv), .bool fx] 36 (w1.alloc (.cells #[.int .i64 ro, .string (str nm), .int .i64 25, .string (str tk), .string (str lv), .bool fx] 36))) := CA.new w1 _ 36
  have hg8 : w.heap.size + 2 < w1.heap.size := HX1.out.c.lt
  generalize w1.alloc (.cells #[.int .i64 ro, .string (str nm), .int .i64 25, .string (str tk), .string (str lv), .bool fx] 36) = W1 at *
  generalize w1.heap.size = g8 at *
  have a0 := HW.out.a.at (k := 0) (v := .int .i64 ta) rfl
  have b0 := HW.out.b.at (k := 0) (v := .int .i64 tb) rfl
  have c0 := HW.out.c.at (k := 0) (v := .int .i64 tc) rfl
  have fa := HW.out.a.free 0
  have fb := HW.out.b.free 0
  have fc := HW.out.c.free 0
  have ne1 : w.heap.size ≠ w.heap.size + 1 := by omega
  have ne2 : w.heap.size ≠ w.heap.size + 1 + 1 := by omega
  go_upto_region 6 with fail
  have HV := hid (HW.out.set (.int .i64 123) (.int .i64 123) (.int .i64 123))
  have HRV := hid (((HRW.out.far (c := w.heap.size) (o := 0) (by omega) (.int .i64 123)).far (c := w.heap.size + 1) (o := 0) (by omega) (.int .i64 123)).far (c := w.heap.size + 2) (o := 0) (by omega) (.int .i64 123))
  clear HW HRW a0 b0 c0 fa fb fc
  generalize ((W1.setCell ⟨w.heap.size, 0, none⟩ (.int .i64 123)).setCell ⟨w.heap.size + 1, 0, none⟩ (.int .i64 123)).setCell ⟨w.heap.size + 2, 0, none⟩ (.int .i64 123) = W2 at *
  have r3 := HRV.out.at (k := 3) (v := .string (str tk)) rfl
  go_upto_region 8 with (go_at_call 25; refine (HT _).out.mono ?_; rintro e w2 ⟨v2, rfl, ho2, hb2⟩; have HO2 := hid ho2; have HX2 := hid (HV.out.to hb2); have HR2 := hid (HRV.out.call hb2); clear ho2 hb2)
  obtain ⟨g2, c2, rfl⟩ : ∃ g cap, v2 = .slice (some ⟨g, 0, none⟩) 2 cap := owned_at HO2.out (by decide)
  have k0 : w2.cell? ⟨g2, 0, none⟩ = some (.int .i64 123) := HO2.out.cellAt 0 (by decide)
  have k1 : w2.cell? ⟨g2, 1, none⟩ = some (.int .i64 T) := HO2.out.cellAt 1 (by decide)
  have hg2 : g2 < w2.heap.size := (HO2.out.lt g2 rfl).2
  have HB2' := hid HX2.out.below
  have hs2 : w.heap.size + 2 < w2.heap.size := HX2.out.c.lt
  clear HV HRV r3 HX1
  go_wp2
  go_loopw [15, 17] (fun v15 vi wr => ∃ j : Nat, j ≤ 2 ∧ vi = .int .i64 j ∧ Hid (wr.ownsRow w2.heap.size 24 4 v15 j (if j = 0 then [] else if j = 1 then avc (123, alo, ahi, anl) else avc (123, alo, ahi, anl) ++ avc (T, nn, 0, false))) ∧ Hid (Below w2.heap.size w2 wr)) (fun _ vi _ => 2 - (intOf vi).toNat)
  case atStart => exact ⟨0, by decide, rfl, World.ownsRow_nil w2 w2.heap.size 24 4, Below.refl _ _⟩
  case round =>
    obtain ⟨j, hj, rfl, HO, HB⟩ := hrel
    have HXr := hid (HX2.out.to HB.out)
    have hsz := HB.out.size
    rcases (show j = 0 ∨ j = 1 ∨ j = 2 by omega) with rfl | rfl | rfl
    · have kk := (HB.out.cell (p := ⟨g2, 0, none⟩) hg2).trans k0
      have HBA := hid ((HB.out.alloc hsz (.cells #[.int .i64 123, .int .u64 (alo : Nat), .int .u64 (ahi : Nat), .bool anl] 24)))
      rw [show ((0 : Nat) : Int) = 0 from rfl]
      have a0 := fun o => (HXr.out.a.alloc o).at (k := 0) (v := .int .i64 123) rfl
      have a1 := fun o => (HXr.out.a.alloc o).at (k := 1) (v := .int .u64 (alo : Nat)) rfl
      have a2 := fun o => (HXr.out.a.alloc o).at (k := 2) (v := .int .u64 (ahi : Nat)) rfl
      have a3 := fun o => (HXr.out.a.alloc o).at (k := 3) (v := .bool anl) rfl
      have b0 := fun o => (HXr.out.b.alloc o).at (k := 0) (v := .int .i64 123) rfl
      have b1 := fun o => (HXr.out.b.alloc o).at (k := 1) (v := .int .u64 (blo : Nat)) rfl
      have b2 := fun o => (HXr.out.b.alloc o).at (k := 2) (v := .int .u64 (bhi : Nat)) rfl
      have b3 := fun o => (HXr.out.b.alloc o).at (k := 3) (v := .bool bnl) rfl
      have c0 := fun o => (HXr.out.c.alloc o).at (k := 0) (v := .int .i64 123) rfl
      have c1 := fun o => (HXr.out.c.alloc o).at (k := 1) (v := .int .u64 (clo : Nat)) rfl
      have c2 := fun o => (HXr.out.c.alloc o).at (k := 2) (v := .int .u64 (chi : Nat)) rfl
      have c3 := fun o => (HXr.out.c.alloc o).at (k := 3) (v := .bool cnl) rfl
      go_wp2_with (at_builtin; refine append_val rfl _ _ rfl w2.heap.size _ _ _ 123 (alo : Nat) (ahi : Nat) anl ((HO.out.alloc _).alloc _) (by first | omega | (simp <;> omega)) (by omega) rfl (by rw [size_al, size_al]; rfl) ?_; intro v' w3 hown' hnx3 hsz3)
      go_roundw
      case rel => exact ⟨0 + 1, by decide, by go_num, hown', ((HB.out.alloc hsz _).alloc (by first | omega | (simp <;> omega)) _).trans hnx3⟩
      case measure => simp [intOf]
    · have kk := (HB.out.cell (p := ⟨g2, 1, none⟩) hg2).trans k1
      rw [show ((1 : Nat) : Int) = 1 from rfl]
      go_wp2_with (at_builtin; refine append_val rfl _ _ rfl w2.heap.size _ _ _ T (nn : Nat) 0 false (HO.out.alloc _) (by first | omega | (simp <;> omega)) (by omega) rfl (by rw [size_al]; rfl) ?_; intro v' w3 hown' hnx3 hsz3)
      go_roundw
      case rel => exact ⟨1 + 1, by decide, by go_num, hown', (HB.out.alloc hsz _).trans hnx3⟩
      case measure => simp [intOf]
    · have hRr := HR2.out.call HB.out
      have r2 := hRr.at (k := 2) (v := .int .i64 25) rfl
      have HA := hid (AR.of2 (HO.out))
      have HBw := hid (HB2'.out.trans (HB.out.mono HB2'.out.size))
      clear HO hRr
      have HRr2 := hid (HR2.out.call HB.out)
      go_upto_region 18 with (first
        | (go_at_call 37; (with_reducible refine (HLN _).out.mono ?_); rintro e w4 ⟨rfl, hb4⟩; have HB4 := hid (HBw.out.trans (hb4.mono HBw.out.size)); have HA4 := hid (HA.out.call hb4); have HR4 := hid (HRr2.out.call hb4); have HZ := hid (World.ownsRow_nil w4 w4.heap.size 3 1); clear hb4)
        | (at_builtin; refine append_int rfl _ _ rfl w4.heap.size _ _ _ (at_ : Int) HZ.out (Nat.le_refl _) (by omega) rfl rfl ?_; intro v' w8 hown' hnx8 hsz8; have HO8 := hid hown'; have HA8 := hid (HA4.out.call hnx8); have HB8' := hid (HB4.out.trans (hnx8.mono HB4.out.size)); have HR8 := hid (HR4.out.call hnx8); clear hown' hnx8 hsz8))
      obtain ⟨gi, ci, rfl⟩ := owned_at HO8.out (by decide)
      have r2' := HR8.out.at (k := 2) (v := .int .i64 25) rfl
      have hb0 : w4.heap.size ≤ w4.heap.size := Nat.le_refl _
      have HO9 : Hid (w8.ownsRow w4.heap.size 3 1 (.slice (some ⟨gi, 0, none⟩) 1 ci) 1 (ic [(at_ : Int)])) := HO8
      generalize w4.heap.size = base4 at *
      clear HA HBw HRr2 HB4 HA4 HR4 HZ HO8 HR8 r2
      go_wp2_with fail
      go_loopw [19, 20] (fun v19 vi ws => v19 = .slice (some ⟨gi, 0, none⟩) 1 ci ∧ vi = .int .i64 0 ∧ ws = w8) (fun _ _ _ => 1)
      case atStart => exact ⟨rfl, rfl, rfl⟩
      case round =>
        obtain ⟨rfl, rfl, rfl⟩ := hrel
        have HA := HA8
        have HP1 := HPP _ _ HB8'.out HA8.out gi ci base4 HO9.out
        have HBw := HB8'
        have HOI := HO9
        go_upto_region 23 with (go_at_call 20; (with_reducible refine HP1.out.mono ?_); rintro e w5 ⟨rfl, hb5⟩; have HA5 := hid (HA.out.call hb5); have HO5 := hid (own_below HOI.out hb5 (Nat.le_refl _)); have HB5 := hid (HBw.out.trans (hb5.mono HBw.out.size)); clear hb5)
        have HB6 := hid (HB5.out.alloc HB5.out.size (.cells #[.int .i64 123, .int .u64 (lo : Nat), .int .u64 (hi : Nat), .bool false] 24))
        have HC6 := hid (CA.new w5 #[.int .i64 123, .int .u64 (lo : Nat), .int .u64 (hi : Nat), .bool false] 24)
        have HA6 := hid (HA5.out.call ((Below.refl _ _).alloc (Nat.le_refl _) (.cells #[.int .i64 123, .int .u64 (lo : Nat), .int .u64 (hi : Nat), .bool false] 24)))
        have HO6 := hid (own_below HO5.out ((Below.refl _ _).alloc (Nat.le_refl _) (.cells #[.int .i64 123, .int .u64 (lo : Nat), .int .u64 (hi : Nat), .bool false] 24)) (Nat.le_refl _))
        generalize w5.alloc (.cells #[.int .i64 123, .int .u64 (lo : Nat), .int .u64 (hi : Nat), .bool false] 24) = W6 at *
        generalize w5.heap.size = g6 at *
        have HR1 := HRR _ _ HB6.out HA6.out gi ci _ HO6.out
        go_upto_region 24 with (go_at_call 38; (with_reducible refine HR1.out.mono ?_); rintro e w7 ⟨rfl, hb7⟩; have HB7 := hid (HB6.out.trans (hb7.mono HB6.out.size)); have HC7 := hid (HC6.out.call hb7); clear hb7)
        have HB8 := hid (HB7.out.alloc HB7.out.size (.cells #[.int .i64 123, .int .u64 (lo : Nat), .int .u64 (hi : Nat), .bool false] 24))
        have HC8 := CA.new w7 #[.int .i64 123, .int .u64 (lo : Nat), .int .u64 (hi : Nat), .bool false] 24
        have HD8 := HC7.out.alloc (.cells #[.int .i64 123, .int .u64 (lo : Nat), .int .u64 (hi : Nat), .bool false] 24)
        generalize w7.alloc (.cells #[.int .i64 123, .int .u64 (lo : Nat), .int .u64 (hi : Nat), .bool false] 24) = W8 at *
        generalize w7.heap.size = g8' at *
        have t0 := HC8.at (k := 0) (v := .int .i64 123) rfl
        have t1 := HC8.at (k := 1) (v := .int .u64 (lo : Nat)) rfl
        have t2 := HC8.at (k := 2) (v := .int .u64 (hi : Nat)) rfl
        have t3 := HC8.at (k := 3) (v := .bool false) rfl
        have s0 := HD8.at (k := 0) (v := .int .i64 123) rfl
        have s1 := HD8.at (k := 1) (v := .int .u64 (lo : Nat)) rfl
        have s2 := HD8.at (k := 2) (v := .int .u64 (hi : Nat)) rfl
        have s3 := HD8.at (k := 3) (v := .bool false) rfl
        go_wp2
        go_ret
        exact ⟨rfl, HB8.out⟩
set_option maxHeartbeats 4000000 in
set_option maxRecDepth 100000 in
theorem some_sh (LL : List Int) (hLL : 1 ≤ LL.length) (hLL2 : LL.length ≤ 60) (gl cl : Nat) (which : Int) (hw0 : -9223372036854775808 ≤ which) (hw1 : which ≤ 9223372036854775807) (ta tb tc : Int) (alo ahi blo bhi clo chi : Nat) (anl bnl cnl : Bool) (nn : Nat) (w : World) (hgl : gl < w.heap.size)
    (hcl : ∀ j, j < LL.length → w.cell? ⟨gl, j, none⟩ = some (.int .i64 (LL.getD j 0))) (y idx : Nat) (hyb : bits .and .i64 which 1023 = (y : Int)) (hidx : idx = y % LL.length) (hil : idx < LL.length) (op : Int) (hop : op = 64768 + LL.getD idx 0) (hopr : 64768 ≤ op ∧ op < 65024)
    (P : Nat → Nat) (y31 : Nat) (hy31 : y31 ≤ 31) (hy31b : bits .and .i64 which 31 = (y31 : Int)) (hPd : ∀ i, P i = (y31 + i * i) % 32) (ro : Int) (nm tk lv : List UInt8) (fx : Bool) (hr : ofL op = (ro, nm, 24, tk, lv, fx)) (htk : tk.length ≤ 100) (hty : tyL tk = [123, 123]) (lo hi : Nat)
    (HP : ∀ W va, Below w.heap.size w W → AR W va ([(123, alo, ahi, anl), (123, blo, bhi, bnl)]) → ∀ gi ci base, W.ownsRow base 3 1 (.slice (some ⟨gi, 0, none⟩) 16 ci) 16 (ic ((List.range 16).map (fun i => (P i : Int)))) → Calls Tryz.prog 20 #[.int .i64 op, .slice (some ⟨gi, 0, none⟩) 16 ci, va] W fun e w' => e = .returned (.tuple #[vv 123 lo hi false, .int .i64 0]) ∧ Below W.heap.size W w')
    (HR : ∀ W va, Below w.heap.size w W → AR W va ([(123, alo, ahi, anl), (123, blo, bhi, bnl)]) → ∀ gi ci base, W.ownsRow base 3 1 (.slice (some ⟨gi, 0, none⟩) 16 ci) 16 (ic ((List.range 16).map (fun i => (P i : Int)))) → Calls Tryz.prog 38 #[.int .i64 op, .slice (some ⟨gi, 0, none⟩) 16 ci, va] W fun e w' => e = .returned (.tuple #[vv 123 lo hi false, .int .i64 0]) ∧ Below W.heap.size W w') :
    Calls Tryz.prog 21 #[.slice (some ⟨gl, 0, none⟩) LL.length cl, .int .i64 which, vv ta alo ahi anl, vv tb blo bhi bnl, vv tc clo chi cnl, .int .u64 (nn : Nat)] w fun e w' => e = .returned (.bool true) ∧ Below w.heap.size w w' := by
  have HLN := fun W => hid (RLanes_says op W)
  have HPD := hid hPd
  clear hPd
  have HO := fun W => hid (Of_says op W)
  rw [hr] at HO
  have HT := fun W => hid (reftypes_says tk htk W)
  rw [hty] at HT
  have HPP := fun W va h1 h2 gi ci base h3 => hid (HP W va h1 h2 gi ci base h3)
  have HRR := fun W va h1 h2 gi ci base h3 => hid (HR W va h1 h2 gi ci base h3)
  have hc := hcl idx hil
  obtain ⟨x, hx⟩ : ∃ x, x = LL.getD idx 0 := ⟨_, rfl⟩
  rw [← hx] at hc hop
  have hwo : wrap64 (64768 + x) = op := by rw [hop]; unfold wrap64; omega
  obtain ⟨m, hm⟩ : ∃ m, m = LL.length := ⟨_, rfl⟩
  rw [← hm] at hidx hil hLL hLL2 ⊢
  rw [hidx] at hc
  have hml : y % m < m := Nat.mod_lt _ hLL
  have hc3 : ∀ o1 o2 o3, (((w.alloc o1).alloc o2).alloc o3).cell? ⟨gl, y % m, none⟩ = some (.int .i64 x) := fun o1 o2 o3 => by
    rw [((((Below.refl _ w).alloc (Nat.le_refl _) o1).alloc (by simp) o2).alloc (by simp; omega) o3).cell (p := ⟨gl, y % m, none⟩) hgl]; exact hc
  have hm0 : ((m : Int) == 0) = false := by simp; omega
  have htm : ((y : Int)).tmod (m : Int) = ((y % m : Nat) : Int) := by rw [Int.tmod_eq_emod_of_nonneg (Int.natCast_nonneg _)]; simp
  unfold vv at HPP HRR ⊢
  unfold rwV at HO
  clear hr hty HP HR hcl hx hop hm hidx hil
  go_enter Tryz.func21, Tryz.ntmps21
  go_upto_region 3 with (first
    | (go_at_call 23; refine (HO _).out.mono ?_; rintro e w1 ⟨rfl, hb1⟩; have HX1 := hid (Bx.of hb1); clear hb1))
  have HW : Hid (Bx w #[.int .i64 ta, .int .u64 (alo : Nat), .int .u64 (ahi : Nat), .bool anl] #[.int .i64 tb, .int .u64 (blo : Nat), .int .u64 (bhi : Nat), .bool bnl] #[.int .i64 tc, .int .u64 (clo : Nat), .int .u64 (chi : Nat), .bool cnl] (w1.alloc (.cells #[.int .i64 ro, .string (str nm), .int .i64 24, .string (str tk), .string (str lv), .bool fx] 36))) := HX1.out.to ((Below.refl _ _).alloc (Nat.le_refl _) _)
  have HRW : Hid (CA w1.heap.size #[.int .i64 ro, .string (str nm), .int .i64 24, .string (str tk), .string (str lv), .bool fx] 36 (w1.alloc (.cells #[.int .i64 ro, .string (str nm), .int .i64 24, .string (str tk), .string (str lv), .bool fx] 36))) := CA.new w1 _ 36
  have hg8 : w.heap.size + 2 < w1.heap.size := HX1.out.c.lt
  generalize w1.alloc (.cells #[.int .i64 ro, .string (str nm), .int .i64 24, .string (str tk), .string (str lv), .bool fx] 36) = W1 at *
  generalize w1.heap.size = g8 at *
  have a0 := HW.out.a.at (k := 0) (v := .int .i64 ta) rfl
  have b0 := HW.out.b.at (k := 0) (v := .int .i64 tb) rfl
  have c0 := HW.out.c.at (k := 0) (v := .int .i64 tc) rfl
  have fa := HW.out.a.free 0
  have fb := HW.out.b.free 0
  have fc := HW.out.c.free 0
  have ne1 : w.heap.size ≠ w.heap.size + 1 := by omega
  have ne2 : w.heap.size ≠ w.heap.size + 1 + 1 := by omega
  go_upto_region 6 with fail
  have HV := hid (HW.out.set (.int .i64 123) (.int .i64 123) (.int .i64 123))
  have HRV := hid (((HRW.out.far (c := w.heap.size) (o := 0) (by omega) (.int .i64 123)).far (c := w.heap.size + 1) (o := 0) (by omega) (.int .i64 123)).far (c := w.heap.size + 2) (o := 0) (by omega) (.int .i64 123))
  clear HW HRW a0 b0 c0 fa fb fc
  generalize ((W1.setCell ⟨w.heap.size, 0, none⟩ (.int .i64 123)).setCell ⟨w.heap.size + 1, 0, none⟩ (.int .i64 123)).setCell ⟨w.heap.size + 2, 0, none⟩ (.int .i64 123) = W2 at *
  have r3 := HRV.out.at (k := 3) (v := .string (str tk)) rfl
  go_upto_region 8 with (go_at_call 25; refine (HT _).out.mono ?_; rintro e w2 ⟨v2, rfl, ho2, hb2⟩; have HO2 := hid ho2; have HX2 := hid (HV.out.to hb2); have HR2 := hid (HRV.out.call hb2); clear ho2 hb2)
  obtain ⟨g2, c2, rfl⟩ : ∃ g cap, v2 = .slice (some ⟨g, 0, none⟩) 2 cap := owned_at HO2.out (by decide)
  have k0 : w2.cell? ⟨g2, 0, none⟩ = some (.int .i64 123) := HO2.out.cellAt 0 (by decide)
  have k1 : w2.cell? ⟨g2, 1, none⟩ = some (.int .i64 123) := HO2.out.cellAt 1 (by decide)
  have hg2 : g2 < w2.heap.size := (HO2.out.lt g2 rfl).2
  have HB2' := hid HX2.out.below
  have hs2 : w.heap.size + 2 < w2.heap.size := HX2.out.c.lt
  clear HV HRV r3 HX1
  go_wp2
  go_loopw [15, 17] (fun v15 vi wr => ∃ j : Nat, j ≤ 2 ∧ vi = .int .i64 j ∧ Hid (wr.ownsRow w2.heap.size 24 4 v15 j (if j = 0 then [] else if j = 1 then avc (123, alo, ahi, anl) else avc (123, alo, ahi, anl) ++ avc (123, blo, bhi, bnl))) ∧ Hid (Below w2.heap.size w2 wr)) (fun _ vi _ => 2 - (intOf vi).toNat)
  case atStart => exact ⟨0, by decide, rfl, World.ownsRow_nil w2 w2.heap.size 24 4, Below.refl _ _⟩
  case round =>
    obtain ⟨j, hj, rfl, HO, HB⟩ := hrel
    have HXr := hid (HX2.out.to HB.out)
    have hsz := HB.out.size
    rcases (show j = 0 ∨ j = 1 ∨ j = 2 by omega) with rfl | rfl | rfl
    · have kk := (HB.out.cell (p := ⟨g2, 0, none⟩) hg2).trans k0
      have HBA := hid ((HB.out.alloc hsz (.cells #[.int .i64 123, .int .u64 (alo : Nat), .int .u64 (ahi : Nat), .bool anl] 24)))
      rw [show ((0 : Nat) : Int) = 0 from rfl]
      have a0 := fun o => (HXr.out.a.alloc o).at (k := 0) (v := .int .i64 123) rfl
      have a1 := fun o => (HXr.out.a.alloc o).at (k := 1) (v := .int .u64 (alo : Nat)) rfl
      have a2 := fun o => (HXr.out.a.alloc o).at (k := 2) (v := .int .u64 (ahi : Nat)) rfl
      have a3 := fun o => (HXr.out.a.alloc o).at (k := 3) (v := .bool anl) rfl
      have b0 := fun o => (HXr.out.b.alloc o).at (k := 0) (v := .int .i64 123) rfl
      have b1 := fun o => (HXr.out.b.alloc o).at (k := 1) (v := .int .u64 (blo : Nat)) rfl
      have b2 := fun o => (HXr.out.b.alloc o).at (k := 2) (v := .int .u64 (bhi : Nat)) rfl
      have b3 := fun o => (HXr.out.b.alloc o).at (k := 3) (v := .bool bnl) rfl
      have c0 := fun o => (HXr.out.c.alloc o).at (k := 0) (v := .int .i64 123) rfl
      have c1 := fun o => (HXr.out.c.alloc o).at (k := 1) (v := .int .u64 (clo : Nat)) rfl
      have c2 := fun o => (HXr.out.c.alloc o).at (k := 2) (v := .int .u64 (chi : Nat)) rfl
      have c3 := fun o => (HXr.out.c.alloc o).at (k := 3) (v := .bool cnl) rfl
      go_wp2_with (at_builtin; refine append_val rfl _ _ rfl w2.heap.size _ _ _ 123 (alo : Nat) (ahi : Nat) anl ((HO.out.alloc _).alloc _) (by first | omega | (simp <;> omega)) (by omega) rfl (by rw [size_al, size_al]; rfl) ?_; intro v' w3 hown' hnx3 hsz3)
      go_roundw
      case rel => exact ⟨0 + 1, by decide, by go_num, hown', ((HB.out.alloc hsz _).alloc (by first | omega | (simp <;> omega)) _).trans hnx3⟩
      case measure => simp [intOf]
    · have kk := (HB.out.cell (p := ⟨g2, 1, none⟩) hg2).trans k1
      have HBA := hid ((HB.out.alloc hsz (.cells #[.int .i64 123, .int .u64 (blo : Nat), .int .u64 (bhi : Nat), .bool bnl] 24)))
      rw [show ((1 : Nat) : Int) = 1 from rfl]
      have a0 := fun o => (HXr.out.a.alloc o).at (k := 0) (v := .int .i64 123) rfl
      have a1 := fun o => (HXr.out.a.alloc o).at (k := 1) (v := .int .u64 (alo : Nat)) rfl
      have a2 := fun o => (HXr.out.a.alloc o).at (k := 2) (v := .int .u64 (ahi : Nat)) rfl
      have a3 := fun o => (HXr.out.a.alloc o).at (k := 3) (v := .bool anl) rfl
      have b0 := fun o => (HXr.out.b.alloc o).at (k := 0) (v := .int .i64 123) rfl
      have b1 := fun o => (HXr.out.b.alloc o).at (k := 1) (v := .int .u64 (blo : Nat)) rfl
      have b2 := fun o => (HXr.out.b.alloc o).at (k := 2) (v := .int .u64 (bhi : Nat)) rfl
      have b3 := fun o => (HXr.out.b.alloc o).at (k := 3) (v := .bool bnl) rfl
      have c0 := fun o => (HXr.out.c.alloc o).at (k := 0) (v := .int .i64 123) rfl
      have c1 := fun o => (HXr.out.c.alloc o).at (k := 1) (v := .int .u64 (clo : Nat)) rfl
      have c2 := fun o => (HXr.out.c.alloc o).at (k := 2) (v := .int .u64 (chi : Nat)) rfl
      have c3 := fun o => (HXr.out.c.alloc o).at (k := 3) (v := .bool cnl) rfl
      go_wp2_with (at_builtin; refine append_val rfl _ _ rfl w2.heap.size _ _ _ 123 (blo : Nat) (bhi : Nat) bnl ((HO.out.alloc _).alloc _) (by first | omega | (simp <;> omega)) (by omega) rfl (by rw [size_al, size_al]; rfl) ?_; intro v' w3 hown' hnx3 hsz3)
      go_roundw
      case rel => exact ⟨1 + 1, by decide, by go_num, hown', ((HB.out.alloc hsz _).alloc (by first | omega | (simp <;> omega)) _).trans hnx3⟩
      case measure => simp [intOf]
    · have hRr := HR2.out.call HB.out
      have r2 := hRr.at (k := 2) (v := .int .i64 24) rfl
      have HA := hid (AR.of2 (HO.out))
      have HBw := hid (HB2'.out.trans (HB.out.mono HB2'.out.size))
      clear HO hRr
      rw [show ((2 : Nat) : Int) = 2 from rfl]
      go_wp2_with fail
      go_loopw [19, 20] (fun v19 vi ws => ∃ j : Nat, j ≤ 16 ∧ vi = .int .i64 j ∧ Hid (ws.ownsRow wr.heap.size 3 1 v19 j (ic ((List.range j).map (fun i => (P i : Int))))) ∧ Hid (Below wr.heap.size wr ws)) (fun _ vi _ => 16 - (intOf vi).toNat)
      case atStart => exact ⟨0, Nat.zero_le _, rfl, World.ownsRow_nil _ _ _ _, Below.refl _ _⟩
      case round =>
        obtain ⟨j, hj16, rfl, HOJ, HBJ⟩ := hrel
        have HRJ := hid ((HR2.out.call HB.out).call HBJ.out)
        have r2' := HRJ.out.at (k := 2) (v := .int .i64 24) rfl
        rcases Nat.lt_or_eq_of_le hj16 with hjl | rfl
        · obtain ⟨q, hq⟩ : ∃ q, q = j * j := ⟨_, rfl⟩
          have hq225 : q ≤ 225 := by rw [hq]; exact Nat.mul_le_mul (show j ≤ 15 by omega) (show j ≤ 15 by omega)
          have hjj : (j : Int) * (j : Int) = (q : Int) := by rw [hq]; simp
          obtain ⟨s, hs⟩ : ∃ s, s = y31 + q := ⟨_, rfl⟩
          have hyq : (y31 : Int) + (q : Int) = (s : Int) := by omega
          have htm2 : ((s : Int)).tmod 32 = ((P j : Nat) : Int) := by rw [Int.tmod_eq_emod_of_nonneg (Int.natCast_nonneg _), HPD.out j, hs, hq]; rfl
          have hwq : IntKind.i64.wrap (q : Int) = (q : Int) := by rw [IntKind.wrap_i64]; omega
          have hwr := HBJ.out.size
          have hsn : ic ((List.range j).map (fun i => (P i : Int))) ++ [Value.int .i64 (P j : Int)] = ic ((List.range (j + 1)).map (fun i => (P i : Int))) := by rw [List.range_succ]; simp [ic]
          have HSN := hid hsn
          clear hsn hq hs
          generalize P j = p at *
          go_wp2_with (at_builtin; refine append_int rfl _ _ rfl _ _ _ _ (p : Int) HOJ.out hwr (by omega) rfl rfl ?_; intro v' w8 hown' hnx8 hsz8)
          rw [HSN.out] at hown'
          have HO8 := hid hown'
          have HB8 := hid (HBJ.out.trans hnx8)
          clear hown' hnx8 hsz8
          go_roundw
          case rel => exact ⟨j + 1, by omega, by first | rfl | go_num, HO8, HB8⟩
          case measure => (simp [intOf] <;> omega)
        obtain ⟨gi, ci, rfl⟩ := owned_at HOJ.out (by decide)
        have HA2 := hid (HA.out.call HBJ.out)
        have HBw2 := hid (HBw.out.trans (HBJ.out.mono HBw.out.size))
        clear HA HBw
        have HA := HA2
        have HBw := HBw2
        have HOI := HOJ
        have HP1 := HPP _ _ HBw.out HA.out gi ci _ HOI.out
        go_upto_region 23 with (go_at_call 20; (with_reducible refine HP1.out.mono ?_); rintro e w5 ⟨rfl, hb5⟩; have HA5 := hid (HA.out.call hb5); have HO5 := hid (own_below HOI.out hb5 (Nat.le_refl _)); have HB5 := hid (HBw.out.trans (hb5.mono HBw.out.size)); clear hb5)
        have HB6 := hid (HB5.out.alloc HB5.out.size (.cells #[.int .i64 123, .int .u64 (lo : Nat), .int .u64 (hi : Nat), .bool false] 24))
        have HC6 := hid (CA.new w5 #[.int .i64 123, .int .u64 (lo : Nat), .int .u64 (hi : Nat), .bool false] 24)
        have HA6 := hid (HA5.out.call ((Below.refl _ _).alloc (Nat.le_refl _) (.cells #[.int .i64 123, .int .u64 (lo : Nat), .int .u64 (hi : Nat), .bool false] 24)))
        have HO6 := hid (own_below HO5.out ((Below.refl _ _).alloc (Nat.le_refl _) (.cells #[.int .i64 123, .int .u64 (lo : Nat), .int .u64 (hi : Nat), .bool false] 24)) (Nat.le_refl _))
        generalize w5.alloc (.cells #[.int .i64 123, .int .u64 (lo : Nat), .int .u64 (hi : Nat), .bool false] 24) = W6 at *
        generalize w5.heap.size = g6 at *
        have HR1 := HRR _ _ HB6.out HA6.out gi ci _ HO6.out
        go_upto_region 24 with (go_at_call 38; (with_reducible refine HR1.out.mono ?_); rintro e w7 ⟨rfl, hb7⟩; have HB7 := hid (HB6.out.trans (hb7.mono HB6.out.size)); have HC7 := hid (HC6.out.call hb7); clear hb7)
        have HB8 := hid (HB7.out.alloc HB7.out.size (.cells #[.int .i64 123, .int .u64 (lo : Nat), .int .u64 (hi : Nat), .bool false] 24))
        have HC8 := CA.new w7 #[.int .i64 123, .int .u64 (lo : Nat), .int .u64 (hi : Nat), .bool false] 24
        have HD8 := HC7.out.alloc (.cells #[.int .i64 123, .int .u64 (lo : Nat), .int .u64 (hi : Nat), .bool false] 24)
        generalize w7.alloc (.cells #[.int .i64 123, .int .u64 (lo : Nat), .int .u64 (hi : Nat), .bool false] 24) = W8 at *
        generalize w7.heap.size = g8' at *
        have t0 := HC8.at (k := 0) (v := .int .i64 123) rfl
        have t1 := HC8.at (k := 1) (v := .int .u64 (lo : Nat)) rfl
        have t2 := HC8.at (k := 2) (v := .int .u64 (hi : Nat)) rfl
        have t3 := HC8.at (k := 3) (v := .bool false) rfl
        have s0 := HD8.at (k := 0) (v := .int .i64 123) rfl
        have s1 := HD8.at (k := 1) (v := .int .u64 (lo : Nat)) rfl
        have s2 := HD8.at (k := 2) (v := .int .u64 (hi : Nat)) rfl
        have s3 := HD8.at (k := 3) (v := .bool false) rfl
        go_wp2
        go_ret
        exact ⟨rfl, HB8.out⟩
end Go.Proofs.YtlhakbkdlgejpaaGreatDoor
