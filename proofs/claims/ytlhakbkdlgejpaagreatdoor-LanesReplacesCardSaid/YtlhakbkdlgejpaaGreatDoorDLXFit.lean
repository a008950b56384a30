/-
  The contracts of the program's Do, where a lane is put in or taken out; where there is no such lane. Condition: the instruction is as its Boolean asks.
-/
import Derived.Test.YtlhakbkdlgejpaaGreatDoorDLXRep
import Derived.Test.YtlhakbkdlgejpaaGreatDoorDLXDo
import Derived.Test.YtlhakbkdlgejpaaGreatDoorDLMOp
import Derived.Test.YtlhakbkdlgejpaaGreatDoorL09
set_option linter.unusedSimpArgs false
set_option linter.unusedVariables false
set_option maxRecDepth 100000
namespace Go.Proofs.YtlhakbkdlgejpaaGreatDoor
open Go.RowKit

set_option maxHeartbeats 4000000 in
theorem fits_bad (op : Int) (h64 : 64768 ≤ op) (hk : knB (lineL op) = true) (hc : chL (lineL op).2.1 = 1) (x : Int) (hx0 : 0 ≤ x) (hx : lanesL op ≤ x) (gi ci : Nat) (va : Value) (w : World) (hg : Glob w) (hgi : w.cell? ⟨gi, 0, none⟩ = some (.int .i64 x)) :
    Calls Tryz.prog 30 #[.int .i64 op, .slice (some ⟨gi, 0, none⟩) 1 ci, va] w fun e w' => e = .returned (.bool false) ∧ Below w.heap.size w w' := by
  have hgl : gi < w.heap.size := World.block_lt_of_cell? _ _ hgi
  have HK := fun W => hid (Known_says op W)
  rw [hk] at HK
  have HCH := fun W => hid (choices_says op W)
  rw [hc] at HCH
  have HLN := fun W (h : Glob W) => hid (Lanes_says op W h)
  have HGL := hid hg
  have hlt0 : ¬ (op < 64768) := by omega
  have hlf : decide (op < 64768) = false := decide_eq_false hlt0
  generalize lanesL op = ln at *
  have x0 : decide (x < 0) = false := decide_eq_false (by omega)
  have x1 : decide (ln ≤ x) = true := decide_eq_true hx
  have x2 : ¬ (x < 0) := by omega
  clear hg hk hc h64 hx hx0
  go_enter Tryz.func30, Tryz.ntmps30
  go_wp2_with (first
    | (go_at_call 45; refine (HK _).out.mono ?_; rintro e w1 ⟨rfl, hb1⟩; have HB1 := hid hb1; clear hb1)
    | (go_at_call 53; refine (HCH _).out.mono ?_; rintro e w2 ⟨rfl, hb2⟩; have HB2 := hid (HB1.out.trans (hb2.mono HB1.out.size)); clear hb2))
  go_loopw [28] (fun vi wr => vi = .int .i64 0 ∧ Hid (Below w.heap.size w wr)) (fun _ _ => 1)
  case atStart => exact ⟨rfl, HB2⟩
  case round =>
    obtain ⟨rfl, HB⟩ := hrel
    have hcx := (HB.out.cell (p := ⟨gi, 0, none⟩) hgl).trans hgi
    go_wp2_with (go_at_call 54; refine (HLN _ (HGL.out.next HB.out)).out.mono ?_; rintro e w4 ⟨rfl, hb4⟩; have HB4 := hid (HB.out.trans (hb4.mono HB.out.size)); clear hb4)
    go_ret
    exact ⟨rfl, HB4.out⟩
theorem Do_bad (op : Int) (vi va : Value) (w : World) (Hf : ∀ W, Below w.heap.size w W → Calls Tryz.prog 30 #[.int .i64 op, vi, va] W fun e w' => e = .returned (.bool false) ∧ Below W.heap.size W w') :
    Calls Tryz.prog 20 #[.int .i64 op, vi, va] w fun e w' => e = .returned (.tuple #[vv 0 0 0 false, .int .i64 1]) ∧ Below w.heap.size w w' := by
  have HF := fun W h => hid (Hf W h)
  unfold vv
  clear Hf
  go_enter Tryz.func20, Tryz.ntmps20
  go_wp2_with (go_at_call 30; (with_reducible refine (HF _ ((Below.refl _ w).alloc (Nat.le_refl _) _)).out.mono ?_); rintro e w1 ⟨rfl, hb1⟩; have HR := hid (below_new hb1); have r0 := HR.out.1.at (k := 0) (v := .int .i64 0) rfl; have r1 := HR.out.1.at (k := 1) (v := .int .u64 0) rfl; have r2 := HR.out.1.at (k := 2) (v := .int .u64 0) rfl; have r3 := HR.out.1.at (k := 3) (v := .bool false) rfl; have f0 := HR.out.1.free 0; have f1 := HR.out.1.free 1; have f2 := HR.out.1.free 2; have f3 := HR.out.1.free 3; clear hb1)
  have q := store4 HR.out.1 (.int .i64 0) (.int .u64 0) (.int .u64 0) (.bool false)
  have hb9 := ((((HR.out.2.setCell (p := ⟨w.heap.size, 0, none⟩) (Nat.le_refl _) (.int .i64 0)).setCell (p := ⟨w.heap.size, 1, none⟩) (Nat.le_refl _) (.int .u64 0)).setCell (p := ⟨w.heap.size, 2, none⟩) (Nat.le_refl _) (.int .u64 0)).setCell (p := ⟨w.heap.size, 3, none⟩) (Nat.le_refl _) (.bool false))
  clear r0 r1 r2 r3 f0 f1 f2 f3
  generalize (((w1.setCell ⟨w.heap.size, 0, none⟩ (.int .i64 0)).setCell ⟨w.heap.size, 1, none⟩ (.int .u64 0)).setCell ⟨w.heap.size, 2, none⟩ (.int .u64 0)).setCell ⟨w.heap.size, 3, none⟩ (.bool false) = W3 at *
  have r0 := q.at (k := 0) (v := .int .i64 0) rfl
  have r1 := q.at (k := 1) (v := .int .u64 0) rfl
  have r2 := q.at (k := 2) (v := .int .u64 0) rfl
  have r3 := q.at (k := 3) (v := .bool false) rfl
  exact bodyPost_ret (v := .tuple #[.agg #[.int .i64 0, .int .u64 0, .int .u64 0, .bool false], .int .i64 1]) (by simp [results, Tryz.results20, go_sem, r0, r1, r2, r3]) rfl ⟨rfl, hb9⟩

noncomputable def nmX (op : Int) : List UInt8 := (lineL op).1.toList
noncomputable def chkLn (rep : Bool) (op : Int) (n : Nat) (T : Int) : Bool := knB (lineL op) && ((lineL op).2.1 == 25) && (laL op == (if rep then [123, T] else [123])) && (lbL op == (if rep then [123] else [T])) && (verbL (nmX op) == (if rep then [114, 101, 112, 108, 97, 99, 101, 95, 108, 97, 110, 101] else [101, 120, 116, 114, 97, 99, 116, 95, 108, 97, 110, 101])) && decide ((nmX op).length ≤ 1000) && ((xsL (nmX op)).2 == 0) && ((toL (nmX op)).1 == false) && ((toL (nmX op)).2 == (n : Int)) && (lanesL op == (cnt n : Int)) && (sgL (nmX op) == false)
structure LN (rep : Bool) (op : Int) (n : Nat) (T : Int) (nm : List UInt8) : Prop where
  kn : knB (lineL op) = true
  im : (lineL op).2.1 = 25
  la : laL op = (if rep then [123, T] else [123])
  lb : lbL op = (if rep then [123] else [T])
  len : nm.length ≤ 1000
  xs : ((xsL nm).2 == 0) = true
  par : parV nm = insV (if rep then [114, 101, 112, 108, 97, 99, 101, 95, 108, 97, 110, 101] else [101, 120, 116, 114, 97, 99, 116, 95, 108, 97, 110, 101]) false n false n false
  ln : lanesL op = (cnt n : Int)
  nm1 : (lineL op).1 = str nm
theorem LN_of (rep : Bool) (op : Int) (n : Nat) (T : Int) (h : chkLn rep op n T = true) : LN rep op n T (nmX op) := by
  unfold chkLn at h
  have e1 : (lineL op).1 = str (nmX op) := (list_str _).symm
  generalize nmX op = nm at *
  simp only [Bool.and_eq_true, decide_eq_true_eq, beq_iff_eq] at h
  obtain ⟨⟨⟨⟨⟨⟨⟨⟨⟨⟨a1, a2⟩, a3⟩, a4⟩, a5⟩, a6⟩, a7⟩, a8⟩, a9⟩, b1⟩, b2⟩ := h
  have x0 : ((xsL nm).2 == 0) = true := by rw [a7]; rfl
  refine ⟨a1, a2, a3, a4, a6, x0, ?_, b1, e1⟩
  unfold parV
  have hf : fromL nm = toL nm := by unfold fromL; rw [if_pos x0]
  rw [hf, a8, a9, a5, b2]
theorem lane_in {at_ c : Nat} {l : Int} (h : at_ < c) (hl : l = (c : Int)) : ∀ x ∈ [(at_ : Int)], 0 ≤ x ∧ x < l := fun x hx => by
  rw [List.mem_singleton] at hx
  omega
theorem Rep_do (op : Int) (h64 : 64768 ≤ op) (n : Nat) (hn : Okn n) (T : Int) (hT : (T == 123) = false) (nm : List UInt8) (P : LN true op n T nm) (at_ : Nat) (hat : at_ < cnt n) (lo hi nn : Nat) (nl : Bool) (h1 : lo < 18446744073709551616) (h2 : hi < 18446744073709551616) (h3 : nn < 18446744073709551616)
    (w : World) (hg : Glob w) (va : Value) (ha : AR w va [(123, lo, hi, nl), (T, nn, 0, false)]) (gi base : Nat) (hI : w.ownsRow base 3 1 (.slice (some ⟨gi, 0, none⟩) 1 1) 1 (ic [(at_ : Int)])) :
    Calls Tryz.prog 20 #[.int .i64 op, .slice (some ⟨gi, 0, none⟩) 1 1, va] w fun e w' => e = .returned (.tuple #[vv 123 (loF n (fun i => if i = at_ then nn else splitF n lo hi i)) (hiF n (fun i => if i = at_ then nn else splitF n lo hi i)) false, .int .i64 0]) ∧ Below w.heap.size w w' := by
  have hcell : w.cell? ⟨gi, 0, none⟩ = some (.int .i64 at_) := hI.cellAt 0 (by decide)
  have hgl : gi < w.heap.size := World.block_lt_of_cell? _ _ hcell
  have hc1 : 1 ≤ cnt n := by omega
  have hc16 : cnt n ≤ 16 := by rcases hn.cases with ⟨_, _, h⟩ | ⟨_, _, h⟩ | ⟨_, _, h⟩ | ⟨_, _, h⟩ <;> omega
  refine Do_vec op nm P.nm1 [114, 101, 112, 108, 97, 99, 101, 95, 108, 97, 110, 101] false n false n hn false P.par P.len (fun hx => by rw [P.xs] at hx; cases hx) P.lb _ va w hg ?_ _ ?_ ?_
  · intro W hW
    exact fits_says op h64 P.kn [(at_ : Int)] (by rw [P.im]; rfl) (lane_in hat P.ln) [(123, lo, hi, nl), (T, nn, 0, false)] (by rw [P.la]; rfl) (by simp) (by simp) _ va base W (hg.next hW) (ha.call hW) (own_below hI hW (Nat.le_refl _))
  · intro i _
    split
    · exact h3
    · exact splitF_u64 hn _ _ _
  · intro W hW
    exact vector_rep false n false n false gi 1 va at_ (cnt n) hc1 hc16 hat (splitF n lo hi) nn W ((hW.cell (p := ⟨gi, 0, none⟩) hgl).trans hcell)
      (fun W2 h => operand_v [114, 101, 112, 108, 97, 99, 101, 95, 108, 97, 110, 101] false n hn false n false va _ 0 lo hi nl rfl h1 h2 W2 ((ha.call hW).call h))
      (fun W2 h => operand_n1 [114, 101, 112, 108, 97, 99, 101, 95, 108, 97, 110, 101] false n hn false n false va _ T nn hT rfl W2 ((ha.call hW).call h))
theorem Ext_num (op : Int) (n : Nat) (hn : Okn n) (T : Int) (nm : List UInt8) (P : LN false op n T nm) (at_ : Nat) (hat : at_ < cnt n) (lo hi : Nat) (nl : Bool) (h1 : lo < 18446744073709551616) (h2 : hi < 18446744073709551616)
    (w : World) (va : Value) (ha : AR w va [(123, lo, hi, nl)]) (gi : Nat) (hcell : w.cell? ⟨gi, 0, none⟩ = some (.int .i64 at_)) :
    ∀ W, Below w.heap.size w W → Calls Tryz.prog 36 #[insV [101, 120, 116, 114, 97, 99, 116, 95, 108, 97, 110, 101] false n false n false, .slice (some ⟨gi, 0, none⟩) 1 1, va] W fun e w' => e = .returned (.int .u64 (splitF n lo hi at_ : Nat)) ∧ Below W.heap.size W w' := fun W hW => by
  have hgl : gi < w.heap.size := World.block_lt_of_cell? _ _ hcell
  exact number_ext [101, 120, 116, 114, 97, 99, 116, 95, 108, 97, 110, 101] (by decide) (by decide) (by decide) false n hn false n false gi 1 va at_ (cnt n) (by omega) hat (splitF n lo hi) (splitF_u64 hn _ _ _) W ((hW.cell (p := ⟨gi, 0, none⟩) hgl).trans hcell)
    (fun W2 h => operand_v [101, 120, 116, 114, 97, 99, 116, 95, 108, 97, 110, 101] false n hn false n false va _ 0 lo hi nl rfl h1 h2 W2 ((ha.call hW).call h))
theorem Ext_do (op : Int) (h64 : 64768 ≤ op) (n : Nat) (hn : Okn n) (T : Int) (hT : (T = 127 ∧ n ≤ 32) ∨ T = 126) (nm : List UInt8) (P : LN false op n T nm) (at_ : Nat) (hat : at_ < cnt n) (lo hi : Nat) (nl : Bool) (h1 : lo < 18446744073709551616) (h2 : hi < 18446744073709551616)
    (w : World) (hg : Glob w) (va : Value) (ha : AR w va [(123, lo, hi, nl)]) (gi base : Nat) (hI : w.ownsRow base 3 1 (.slice (some ⟨gi, 0, none⟩) 1 1) 1 (ic [(at_ : Int)])) :
    Calls Tryz.prog 20 #[.int .i64 op, .slice (some ⟨gi, 0, none⟩) 1 1, va] w fun e w' => e = .returned (.tuple #[vv T (splitF n lo hi at_) 0 false, .int .i64 0]) ∧ Below w.heap.size w w' := by
  have hcell : w.cell? ⟨gi, 0, none⟩ = some (.int .i64 at_) := hI.cellAt 0 (by decide)
  have Hfit : ∀ W, Below w.heap.size w W → Calls Tryz.prog 30 #[.int .i64 op, .slice (some ⟨gi, 0, none⟩) 1 1, va] W fun e w' => e = .returned (.bool true) ∧ Below W.heap.size W w' := fun W hW =>
    fits_says op h64 P.kn [(at_ : Int)] (by rw [P.im]; rfl) (lane_in hat P.ln) [(123, lo, hi, nl)] (by rw [P.la]; rfl) (by simp) (by simp) _ va base W (hg.next hW) (ha.call hW) (own_below hI hW (Nat.le_refl _))
  have HN := Ext_num op n hn T nm P at_ hat lo hi nl h1 h2 w va ha gi hcell
  have hlb := P.lb
  rcases hT with ⟨rfl, h32⟩ | rfl
  · have H := Do_num32 op nm P.nm1 [101, 120, 116, 114, 97, 99, 116, 95, 108, 97, 110, 101] false n false n false P.par P.len (fun hx => by rw [P.xs] at hx; cases hx) hlb _ va w hg Hfit _ (splitF_u64 hn _ _ _) HN
    have e : splitF n lo hi at_ % 2 ^ 32 = splitF n lo hi at_ := Nat.mod_eq_of_lt (Nat.lt_of_lt_of_le (splitF_lt n lo hi at_) (Nat.pow_le_pow_right (by decide) h32))
    rw [e] at H
    exact H
  · exact Do_num64 op nm P.nm1 [101, 120, 116, 114, 97, 99, 116, 95, 108, 97, 110, 101] false n false n false P.par P.len (fun hx => by rw [P.xs] at hx; cases hx) hlb _ va w hg Hfit _ (splitF_u64 hn _ _ _) HN
theorem Ext_bad (op : Int) (h64 : 64768 ≤ op) (n : Nat) (T : Int) (nm : List UInt8) (P : LN false op n T nm) (w : World) (hg : Glob w) (va : Value) (gi ci : Nat) (hgi : w.cell? ⟨gi, 0, none⟩ = some (.int .i64 (cnt n : Nat))) :
    Calls Tryz.prog 20 #[.int .i64 op, .slice (some ⟨gi, 0, none⟩) 1 ci, va] w fun e w' => e = .returned (.tuple #[vv 0 0 0 false, .int .i64 1]) ∧ Below w.heap.size w w' := by
  have hgl : gi < w.heap.size := World.block_lt_of_cell? _ _ hgi
  exact Do_bad op _ va w fun W hW => fits_bad op h64 P.kn (by rw [P.im]; rfl) (cnt n : Nat) (by omega) (by rw [P.ln]; exact Int.le_refl _) gi ci va W (hg.next hW) ((hW.cell (p := ⟨gi, 0, none⟩) hgl).trans hgi)

theorem packF_lane (n : Nat) (F : Nat → Nat) : ∀ (k i : Nat), i < k → laneN n (packF n k F) i = F i % 2 ^ n := by
  intro k
  induction k generalizing F with
  | zero => intro i h; omega
  | succ k ih =>
    intro i h
    rw [packF_front]
    unfold laneN
    cases i with
    | zero => rw [Nat.mul_zero, Nat.pow_zero, Nat.div_one, Nat.add_mul_mod_self_left, Nat.mod_mod]
    | succ i =>
      have e : n * (i + 1) = n + n * i := by rw [Nat.mul_add, Nat.mul_one, Nat.add_comm]
      rw [e, Nat.pow_add, ← Nat.div_div_eq_div_mul, Nat.add_mul_div_left _ _ (Nat.two_pow_pos n), Nat.div_eq_of_lt (Nat.mod_lt _ (Nat.two_pow_pos n)), Nat.zero_add]
      exact ih (fun i => F (i + 1)) i (by omega)
end Go.Proofs.YtlhakbkdlgejpaaGreatDoor
