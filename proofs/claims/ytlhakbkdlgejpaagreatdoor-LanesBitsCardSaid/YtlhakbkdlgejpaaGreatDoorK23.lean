/-
  LAgree, LAgree2, LAwakeB, LAwakeC, LBProg, LBNum: merged, what the law does not reach left out (each text says what it holds where it lies in wip). No condition.
-/
import Derived.Test.YtlhakbkdlgejpaaGreatDoorK22
import Derived.Test.YtlhakbkdlgejpaaGreatDoorK16
import Derived.Deep.DeepCutAuto
import Derived.Deep.RegionHeld3
import Derived.Test.YtlhakbkdlgejpaaGreatDoorK10
import Derived.Test.YtlhakbkdlgejpaaGreatDoorK08
import Derived.Test.YtlhakbkdlgejpaaGreatDoorK09
import Derived.Laws.Bits64b
import Derived.Test.YtlhakbkdlgejpaaGreatDoorK15
set_option linter.unusedSimpArgs false
set_option linter.unusedVariables false
set_option maxRecDepth 100000
namespace Go.Proofs.YtlhakbkdlgejpaaGreatDoor
open Go.RowKit
theorem toN_lt (n : Nat) (z : Int) : toN n z < 2 ^ n := by
  unfold toN
  have h : (0 : Int) < ((2 ^ n : Nat) : Int) := by exact_mod_cast Nat.two_pow_pos n
  have h1 := Int.emod_nonneg z (Int.ne_of_gt h)
  have h2 := Int.emod_lt_of_pos z h
  omega
theorem divR_lt {n : Nat} (op a b : Nat) (ha : a < 2 ^ n) (hb : b < 2 ^ n) : (divR n op a b).1 < 2 ^ n := by
  have h0 := Nat.two_pow_pos n
  have ht := toN_lt n
  have h1 : a / b < 2 ^ n := Nat.lt_of_le_of_lt (Nat.div_le_self _ _) ha
  have h2 : a % b < 2 ^ n := Nat.lt_of_le_of_lt (Nat.mod_le _ _) ha
  have h3 := ht ((sg n a).tmod (sg n b))
  have h4 := ht ((sg n a).tdiv (sg n b))
  unfold divR
  generalize toN n ((sg n a).tmod (sg n b)) = t1 at *
  generalize toN n ((sg n a).tdiv (sg n b)) = t2 at *
  generalize a / b = t3 at *
  generalize a % b = t4 at *
  by_cases c0 : b = 0
  · rw [if_pos c0]; exact h0
  rw [if_neg c0]
  by_cases c1 : op = 5
  · rw [if_pos c1]; exact h1
  rw [if_neg c1]
  by_cases c2 : op = 7
  · rw [if_pos c2]; exact h2
  rw [if_neg c2]
  by_cases c3 : op = 6
  · rw [if_pos c3]; exact h3
  rw [if_neg c3]
  by_cases c4 : a = 2 ^ (n - 1) ∧ b = 2 ^ n - 1
  · rw [if_pos c4]; exact h0
  rw [if_neg c4]; exact h4
theorem shiftR_lt {n : Nat} (op a k : Nat) (ha : a < 2 ^ n) : shiftR n op a k < 2 ^ n := by
  have h0 := Nat.two_pow_pos n
  have hm : ∀ x : Nat, x % 2 ^ n < 2 ^ n := fun x => Nat.mod_lt _ h0
  have ht := toN_lt n
  unfold shiftR
  by_cases c0 : op = 11
  · rw [if_pos c0]; exact hm _
  rw [if_neg c0]
  by_cases c1 : op = 12
  · rw [if_pos c1]; exact ht _
  rw [if_neg c1]
  by_cases c2 : op = 13
  · rw [if_pos c2]; exact Nat.lt_of_le_of_lt (Nat.div_le_self _ _) ha
  rw [if_neg c2]
  by_cases c3 : op = 14
  · rw [if_pos c3]; exact hm _
  rw [if_neg c3]; exact hm _
theorem satR_lt {n : Nat} (op a b : Nat) (ha : a < 2 ^ n) (hb : b < 2 ^ n) : satR n op a b < 2 ^ n := by
  have h0 := Nat.two_pow_pos n
  have ht := toN_lt n
  unfold satR
  by_cases c0 : op = 16
  · rw [if_pos c0]; exact ht _
  rw [if_neg c0]
  by_cases c1 : op = 18
  · rw [if_pos c1]; exact ht _
  rw [if_neg c1]
  by_cases c2 : op = 17
  · rw [if_pos c2]
    by_cases c3 : 2 ^ n - 1 < a + b
    · rw [if_pos c3]; omega
    · rw [if_neg c3]; omega
  rw [if_neg c2]; omega
theorem mmR_lt {n : Nat} (op a b : Nat) (ha : a < 2 ^ n) (hb : b < 2 ^ n) : mmR n op a b < 2 ^ n := by
  unfold mmR
  by_cases c0 : op = 20
  · rw [if_pos c0]; split <;> assumption
  rw [if_neg c0]
  by_cases c1 : op = 22
  · rw [if_pos c1]; split <;> assumption
  rw [if_neg c1]
  by_cases c2 : op = 21
  · rw [if_pos c2]; split <;> assumption
  rw [if_neg c2]; split <;> assumption
theorem binR_lt {n : Nat} (hn : Okn n) (op a b : Nat) (ha : a < 2 ^ n) (hb : b < 2 ^ n) : (binR n op a b).1 < 2 ^ n := by
  have h0 := Nat.two_pow_pos n
  have hm : ∀ x : Nat, x % 2 ^ n < 2 ^ n := fun x => Nat.mod_lt _ h0
  have ht := toN_lt n
  unfold binR
  by_cases c1 : op = 1
  · rw [if_pos c1]; exact hm _
  rw [if_neg c1]
  by_cases c2 : op = 2
  · rw [if_pos c2]; exact hm _
  rw [if_neg c2]
  by_cases c3 : op = 3
  · rw [if_pos c3]; exact hm _
  rw [if_neg c3]
  by_cases c4 : op ≤ 7
  · rw [if_pos c4]; exact divR_lt _ _ _ ha hb
  rw [if_neg c4]
  by_cases c5 : op = 8
  · rw [if_pos c5]; exact Nat.and_lt_two_pow _ hb
  rw [if_neg c5]
  by_cases c6 : op = 9
  · rw [if_pos c6]; exact Nat.or_lt_two_pow ha hb
  rw [if_neg c6]
  by_cases c7 : op = 10
  · rw [if_pos c7]; exact Nat.xor_lt_two_pow ha hb
  rw [if_neg c7]
  by_cases c8 : op ≤ 15
  · rw [if_pos c8]; exact shiftR_lt _ _ _ ha
  rw [if_neg c8]
  by_cases c9 : op ≤ 19
  · rw [if_pos c9]; exact satR_lt _ _ _ ha hb
  rw [if_neg c9]
  by_cases c10 : op ≤ 23
  · rw [if_pos c10]; exact mmR_lt _ _ _ ha hb
  rw [if_neg c10]
  by_cases c11 : op = 24
  · rw [if_pos c11]; show (a + b + 1) / 2 < 2 ^ n; omega
  rw [if_neg c11]; exact ht _
theorem binA_lt (n : Nat) (hn : Okn n) (k : Int) (x y : Nat) : (binA n k x y).1 < 18446744073709551616 := by
  have h64 : 2 ^ n ≤ 18446744073709551616 := (pow_lt64 hn).2.2.1
  unfold binA
  split
  · exact Nat.lt_of_lt_of_le (binR_lt (by simpa using hn) _ _ _ (Nat.mod_lt _ (Nat.two_pow_pos _)) (Nat.mod_lt _ (Nat.two_pow_pos _))) h64
  · decide
theorem ix_str (b : UInt8) (t : List UInt8) (W : World) : (Instr.index 9 (.string (str (b :: t))) (.int .i64 0)).run Tryz.prog W = .ok (.int .u8 b.toNat) W := by
  simp [Instr.index, asIntOf, run_underlying Tryz.underlying9, str]
  rfl
end Go.Proofs.YtlhakbkdlgejpaaGreatDoor
namespace Go.Proofs.YtlhakbkdlgejpaaGreatDoor
open Go.RowKit
/-- What the Boolean of all kinds says. -/
structure PC (two : Bool) (op : Int) (n : Nat) (vb : List UInt8) (sg : Bool) (sh what nm : List UInt8) (ro : Int) (tk lv : List UInt8) (fx : Bool) : Prop where
  kn : knB (lineL op) = true
  lo : 64768 ≤ op
  hi : op < 65024
  im : (lineL op).2.1 = 0
  la : laL op = (if two then [123, 123] else [123])
  lb : lbL op = [123]
  ea : eachV vb = true
  len : nm.length ≤ 1000
  xs : ((xsL nm).2 == 0) = true
  okn : Okn n
  n0 : (vb == [110, 111, 116]) = false
  n1 : (vb == [97, 110, 100, 110, 111, 116]) = false
  ro0 : 0 ≤ ro
  of : ofL op = (ro, nm, 0, tk, lv, fx)
  tk1 : tk.length ≤ 100
  lv1 : lv.length ≤ 100
  tk2 : tyL tk = (if two then [123, 123] else [123])
  lv2 : tyL lv = [123]
  bi : biL sh = n
  w0 : (what == [115, 112, 108, 97, 116]) = false
  w1 : (what == [115, 119, 105, 122, 122, 108, 101]) = false
  w2 : (what == [97, 108, 108, 95, 116, 114, 117, 101]) = false
  w3 : (what == [98, 105, 116, 109, 97, 115, 107]) = false
  ns : noSh 10 what = true
  par : parV nm = insV vb false n false n sg
  nm1 : (lineL op).1 = str nm
  shE : headC nm 46 = sh
  whE : tailC nm 46 = what
  ix : ∀ W, (Instr.index 9 (.string (str sh)) (.int .i64 0)).run Tryz.prog W = .ok (.int .u8 105) W
theorem PC_of (two : Bool) (op : Int) (h : chkC two op = true) (h' : chkI op = true) :
    ∃ n ro tk lv fx, PC two op n (verbL (nmL op)) (sgL (nmL op)) (headC (nmL op) 46) (tailC (nmL op) 46) (nmL op) ro tk lv fx := by
  unfold chkC at h
  unfold chkI at h'
  have e1 : (lineL op).1 = str (nmL op) := (list_str _).symm
  generalize nmL op = nm at *
  obtain ⟨⟨ro, nm', im, tk, lv, fx⟩, hr⟩ : ∃ r, ofL op = r := ⟨_, rfl⟩
  rw [hr] at h
  obtain ⟨n, hn⟩ : ∃ n, n = (toL nm).2.toNat := ⟨_, rfl⟩
  rw [← hn] at h
  simp only [Bool.and_eq_true, decide_eq_true_eq, beq_iff_eq, Bool.not_eq_true'] at h h'
  obtain ⟨⟨⟨⟨⟨⟨⟨⟨⟨⟨⟨⟨⟨⟨⟨⟨⟨⟨⟨⟨⟨⟨⟨⟨⟨a1, a2⟩, a3⟩, a4⟩, a5⟩, a6⟩, a7⟩, a8⟩, a9⟩, a10⟩, a11⟩, a12⟩, a13⟩, b1⟩, b2⟩, b3⟩, b4⟩, b5⟩, b6⟩, b7⟩, c1⟩, c2⟩, c3⟩, c4⟩, c5⟩, c6⟩ := h
  obtain ⟨⟨d1, d2⟩, d3⟩ := h'
  subst b2
  subst b3
  have x0 : ((xsL nm').2 == 0) = true := by rw [a9]; rfl
  refine ⟨n, ro, tk, lv, fx, a1, a2, a3, a4, a5, a6, a7, a8, x0, a10, a12, a13, b1, hr, b4, b5, b6, b7, by rw [c1, a11], c2, c3, c4, c5, c6, ?_, e1, rfl, rfl, ?_⟩
  · unfold parV
    have hf : fromL nm' = toL nm' := by unfold fromL; rw [if_pos x0]
    rw [hf, d1, a11]
  · cases hc : headC nm' 46 with
    | nil => rw [hc] at d3; simp at d3
    | cons b t =>
      rw [hc] at d2
      obtain rfl : b = 105 := d2
      exact fun W => ix_str 105 t W
end Go.Proofs.YtlhakbkdlgejpaaGreatDoor
namespace Go.Proofs.YtlhakbkdlgejpaaGreatDoor
open Go.RowKit
theorem Two_add : Two 108 8 1 (fun x y => (binA 8 1 x y).1) := fun x y W hx hy => by
  have hh : Okn ((8 : Int)).toNat := .inl rfl
  have H := Bin_1 8 (.inl rfl) x y hx hy W
  have e : binA 8 1 x y = binR 8 1 (x % 2 ^ 8) (y % 2 ^ 8) := by rw [binA, if_pos ⟨hh, by decide, by decide, fun h => by cases h⟩]; rfl
  show Calls Tryz.prog 108 _ _ fun e w' => (∃ c : Int, e = .returned (.tuple #[.int .u64 ((binA 8 1 x y).1 : Nat), .int .i64 c])) ∧ _
  rw [e]
  exact H.mono fun e w' ⟨he, hw⟩ => ⟨⟨_, he⟩, hw ▸ Below.refl _ _⟩
theorem bin64878 : chkBin 64878 = true := by kernel_rfl
theorem name64878 : nmL 64878 = [105, 56, 120, 49, 54, 46, 97, 100, 100] := by kernel_rfl
/-- What the program's Do comes to at 64878 (a sum of sixteen lanes) of awake's two vectors. -/
theorem Do_awake (w : World) (hg : Glob w) (va : Value) (ha : AR w va [(123, 14468034567615334600, 14468034567615334600, false), (123, 100, 56, false)]) :
    Calls Tryz.prog 20 #[.int .i64 64878, .slice none 0 0, va] w fun e w' => e = .returned (.tuple #[vv 123 14468034567615334444 14468034567615334400 false, .int .i64 0]) ∧ Below w.heap.size w w' := by
  have h := bin64878
  unfold chkBin at h
  simp only [Bool.and_eq_true, Bool.not_eq_true'] at h
  obtain ⟨⟨⟨⟨⟨⟨⟨⟨hc, hi⟩, u0⟩, u1⟩, u2⟩, u3⟩, v0⟩, v1⟩, v2⟩ := h
  obtain ⟨n, ro, tk, lv, fx, P⟩ := PC_of true 64878 hc hi
  have hbi := P.bi
  rw [name64878] at P u0 u1 u3 hbi
  have hn : n = 8 := by
    have e : biL (headC [105, 56, 120, 49, 54, 46, 97, 100, 100] 46) = 8 := by decide +kernel
    rw [e] at hbi; omega
  subst hn
  have e1 : verbL [105, 56, 120, 49, 54, 46, 97, 100, 100] = [97, 100, 100] := by decide +kernel
  have e2 : sgL [105, 56, 120, 49, 54, 46, 97, 100, 100] = false := by decide +kernel
  rw [e1, e2] at P
  have H := Do_each2 64878 [105, 56, 120, 49, 54, 46, 97, 100, 100] [97, 100, 100] 8 P.okn false false 0 false P.nm1 P.par P.len (fun hx => by rw [P.xs] at hx; cases hx) P.lo P.kn P.im P.la P.lb P.ea (fun x y => (binA 8 1 x y).1)
    (fun W => operation_bin_i [97, 100, 100] false 8 8 false 1 (by decide +kernel) (by decide +kernel) (by decide +kernel) _ Two_add P.n0 P.n1 W) (fun x y _ _ => binA_lt 8 P.okn 1 x y) 14468034567615334600 14468034567615334600 100 56 false false (by decide) (by decide) (by decide) (by decide) w hg va ha
  have x1 : loF 8 (fun i => (binA 8 1 (splitF 8 14468034567615334600 14468034567615334600 i) (splitF 8 100 56 i)).1) = 14468034567615334444 := by decide +kernel
  have x2 : hiF 8 (fun i => (binA 8 1 (splitF 8 14468034567615334600 14468034567615334600 i) (splitF 8 100 56 i)).1) = 14468034567615334400 := by decide +kernel
  rw [x1, x2] at H
  exact H
end Go.Proofs.YtlhakbkdlgejpaaGreatDoor
namespace Go.Proofs.YtlhakbkdlgejpaaGreatDoor
open Go.RowKit
theorem and_1023 (a : Int) : ∃ K : Nat, K ≤ 1023 ∧ bits .and .i64 a 1023 = (K : Int) := by
  refine ⟨(BitVec.ofInt 64 a).toNat &&& 1023, Nat.and_le_right, ?_⟩
  have hle : (BitVec.ofInt 64 a).toNat &&& 1023 ≤ 1023 := Nat.and_le_right
  have e2 : BitVec.toNat (BitVec.ofInt 64 1023) = 1023 := by decide
  show IntKind.i64.wrap ((BitVec.ofInt 64 a &&& BitVec.ofInt 64 1023).toNat : Int) = _
  rw [BitVec.toNat_and, e2, IntKind.wrap_i64]
  generalize (BitVec.ofInt 64 a).toNat &&& 1023 = q at *
  omega
theorem row16 (w : World) : RowAt (w.alloc (.cells #[.int .u64 200, .int .u64 200, .int .u64 200, .int .u64 200, .int .u64 200, .int .u64 200, .int .u64 200, .int .u64 200, .int .u64 200, .int .u64 200, .int .u64 200, .int .u64 200, .int .u64 200, .int .u64 200, .int .u64 200, .int .u64 200] 22)) (.slice (some ⟨w.heap.size, 0, none⟩) 16 16) 16 (fun _ => 200) := by
  have h := CA.new w #[.int .u64 200, .int .u64 200, .int .u64 200, .int .u64 200, .int .u64 200, .int .u64 200, .int .u64 200, .int .u64 200, .int .u64 200, .int .u64 200, .int .u64 200, .int .u64 200, .int .u64 200, .int .u64 200, .int .u64 200, .int .u64 200] 22
  refine ⟨_, 0, 16, rfl, h.lt, Nat.le_refl _, fun j hj => ?_⟩
  rw [Nat.zero_add]
  refine ⟨h.at (k := j) ?_, h.free j⟩
  rcases (show j = 0 ∨ j = 1 ∨ j = 2 ∨ j = 3 ∨ j = 4 ∨ j = 5 ∨ j = 6 ∨ j = 7 ∨ j = 8 ∨ j = 9 ∨ j = 10 ∨ j = 11 ∨ j = 12 ∨ j = 13 ∨ j = 14 ∨ j = 15 by omega) with rfl | rfl | rfl | rfl | rfl | rfl | rfl | rfl | rfl | rfl | rfl | rfl | rfl | rfl | rfl | rfl <;> rfl
theorem ar_two (w : World) (alo ahi blo bhi : Nat) (T : TypeId) : AR (w.alloc (.cells #[.int .i64 123, .int .u64 (alo : Nat), .int .u64 (ahi : Nat), .bool false, .int .i64 123, .int .u64 (blo : Nat), .int .u64 (bhi : Nat), .bool false] T)) (.slice (some ⟨w.heap.size, 0, none⟩) 2 2) [(123, alo, ahi, false), (123, blo, bhi, false)] := by
  have h := CA.new w #[.int .i64 123, .int .u64 (alo : Nat), .int .u64 (ahi : Nat), .bool false, .int .i64 123, .int .u64 (blo : Nat), .int .u64 (bhi : Nat), .bool false] T
  refine ⟨_, 2, rfl, h.lt, Nat.le_refl _, fun j c hj => ?_⟩
  match j, hj with
  | 0, hj =>
    obtain rfl : (123, alo, ahi, false) = c := by simpa using hj
    exact ⟨h.at (k := 0) rfl, h.at (k := 1) rfl, h.at (k := 2) rfl, h.at (k := 3) rfl⟩
  | 1, hj =>
    obtain rfl : (123, blo, bhi, false) = c := by simpa using hj
    exact ⟨h.at (k := 4) rfl, h.at (k := 5) rfl, h.at (k := 6) rfl, h.at (k := 7) rfl⟩
  | j + 2, hj => simp at hj
set_option maxHeartbeats 4000000 in
set_option maxRecDepth 100000 in
theorem awake_says (w : World) (hg : Glob w) : Calls Tryz.prog 19 #[] w fun e w' => e = .returned (.bool true) ∧ Below w.heap.size w w' := by
  have HS : ∀ W, Hid (Calls Tryz.prog 28 #[.int .i64 32, .agg #[.int .i64 0, .int .u64 4294967297, .int .u64 3, .bool false]] W (LPost W 4 (splitF 32 4294967297 3))) := fun W => hid (Split_says 32 (by right; right; left; rfl) 0 4294967297 3 false (by decide) (by decide) W)
  have hJ1 : loF 8 (fun _ => 200) = 14468034567615334600 := by decide +kernel
  have hJ2 : hiF 8 (fun _ => 200) = 14468034567615334600 := by decide +kernel
  have HJ : ∀ W v, RowAt W v 16 (fun _ => 200) → Hid (Calls Tryz.prog 29 #[.int .i64 8, v] W fun e w' => e = .returned (.tuple #[.agg #[.int .i64 123, .int .u64 14468034567615334600, .int .u64 14468034567615334600, .bool false], .int .i64 0]) ∧ Below W.heap.size W w') := fun W v h => by
    have H := Join_says 8 (by left; rfl) v (fun _ => 200) W h (fun _ _ => by decide)
    rw [hJ1, hJ2] at H
    exact hid H
  have HD : ∀ W, Glob W → ∀ va, AR W va [(123, 14468034567615334600, 14468034567615334600, false), (123, 100, 56, false)] → Hid (Calls Tryz.prog 20 #[.int .i64 64878, .slice none 0 0, va] W fun e w' => e = .returned (.tuple #[.agg #[.int .i64 123, .int .u64 14468034567615334444, .int .u64 14468034567615334400, .bool false], .int .i64 0]) ∧ Below W.heap.size W w') := fun W h va ha => hid (Do_awake W h va ha)
  have HL : ∀ vi va W, Hid (Calls Tryz.prog 20 #[.int .i64 106, vi, va] W fun e w' => e = .returned (.tuple #[.agg #[.int .i64 0, .int .u64 0, .int .u64 0, .bool false], .int .i64 1]) ∧ Below W.heap.size W w') := fun vi va W => hid (Do_low 106 (by decide) vi va W)
  have HG := hid hg
  clear hJ1 hJ2 hg
  go_enter Tryz.func19, Tryz.ntmps19
  go_upto_region 2 with (go_at_call 28; (with_reducible refine (HS _).out.mono ?_); rintro e w1 ⟨v1, rfl, ho1, hb1⟩; have HO1 := hid ho1; have HB1 := hid hb1; clear ho1 hb1)
  obtain ⟨g1, c1, rfl⟩ : ∃ g cap, v1 = .slice (some ⟨g, 0, none⟩) 4 cap := owned_at HO1.out (by decide)
  have k0 : w1.cell? ⟨g1, 0, none⟩ = some (.int .u64 1) := HO1.out.cellAt 0 (by decide)
  have k2 : w1.cell? ⟨g1, 2, none⟩ = some (.int .u64 3) := HO1.out.cellAt 2 (by decide)
  have hg1 : g1 < w1.heap.size := (HO1.out.lt g1 rfl).2
  clear HO1 HS
  have HJ1 := HJ _ _ (row16 w1)
  clear HJ
  go_upto_region 3 with (go_at_call 29; (with_reducible refine HJ1.out.mono ?_); rintro e w2 ⟨rfl, hb2⟩; have HN2 := hid (below_new hb2); clear hb2)
  have hB2 : Below w.heap.size w w2 := HB1.out.trans (HN2.out.2.mono HB1.out.size)
  have k02 := (HN2.out.2.cell (p := ⟨g1, 0, none⟩) hg1).trans k0
  have k22 := (HN2.out.2.cell (p := ⟨g1, 2, none⟩) hg1).trans k2
  have hg2 : g1 < w2.heap.size := Nat.lt_of_lt_of_le hg1 HN2.out.2.size
  have HG3 := hid (HG.out.next (hB2.alloc hB2.size (.cells #[.int .i64 123, .int .u64 14468034567615334600, .int .u64 14468034567615334600, .bool false] 24)))
  have HB3 := hid (hB2.alloc hB2.size (.cells #[.int .i64 123, .int .u64 14468034567615334600, .int .u64 14468034567615334600, .bool false] 24))
  have hC3 := CA.new w2 #[.int .i64 123, .int .u64 14468034567615334600, .int .u64 14468034567615334600, .bool false] 24
  have k03 := (((Below.refl _ w2).alloc (Nat.le_refl _) (.cells #[.int .i64 123, .int .u64 14468034567615334600, .int .u64 14468034567615334600, .bool false] 24)).cell (p := ⟨g1, 0, none⟩) hg2).trans k02
  have k23 := (((Below.refl _ w2).alloc (Nat.le_refl _) (.cells #[.int .i64 123, .int .u64 14468034567615334600, .int .u64 14468034567615334600, .bool false] 24)).cell (p := ⟨g1, 2, none⟩) hg2).trans k22
  have hg3 : g1 < (w2.alloc (.cells #[.int .i64 123, .int .u64 14468034567615334600, .int .u64 14468034567615334600, .bool false] 24)).heap.size := by rw [size_al]; omega
  generalize w2.alloc (.cells #[.int .i64 123, .int .u64 14468034567615334600, .int .u64 14468034567615334600, .bool false] 24) = W3 at *
  generalize w2.heap.size = g2 at *
  clear k0 k2 k02 k22 hg1 hg2 HN2 hB2 HJ1 HB1
  have a0 := hC3.at (k := 0) (v := .int .i64 123) rfl
  have a1 := hC3.at (k := 1) (v := .int .u64 14468034567615334600) rfl
  have a2 := hC3.at (k := 2) (v := .int .u64 14468034567615334600) rfl
  have a3 := hC3.at (k := 3) (v := .bool false) rfl
  have HD1 := HD _ (HG.out.next (HB3.out.alloc HB3.out.size (.cells #[.int .i64 123, .int .u64 14468034567615334600, .int .u64 14468034567615334600, .bool false, .int .i64 123, .int .u64 100, .int .u64 56, .bool false] 24))) _ (ar_two W3 14468034567615334600 14468034567615334600 100 56 24)
  have HBB := hid (HB3.out.alloc HB3.out.size (.cells #[.int .i64 123, .int .u64 14468034567615334600, .int .u64 14468034567615334600, .bool false, .int .i64 123, .int .u64 100, .int .u64 56, .bool false] 24))
  have kk := fun o => (((Below.refl _ W3).alloc (Nat.le_refl _) o).cell (p := ⟨g1, 0, none⟩) hg3).trans k03
  have kk2 := fun o => (((Below.refl _ W3).alloc (Nat.le_refl _) o).cell (p := ⟨g1, 2, none⟩) hg3).trans k23
  have hsz3 : ∀ o, g1 < (W3.alloc o).heap.size := fun o => by rw [size_al]; omega
  clear HD
  go_upto_region 4 with (go_at_call 20; (with_reducible refine HD1.out.mono ?_); rintro e w4 ⟨rfl, hb4⟩; have HN4 := hid hb4; clear hb4)
  have HB4 := hid (HBB.out.trans (HN4.out.mono HBB.out.size))
  have p0 := (HN4.out.cell (p := ⟨g1, 0, none⟩) (hsz3 _)).trans (kk _)
  have p2 := (HN4.out.cell (p := ⟨g1, 2, none⟩) (hsz3 _)).trans (kk2 _)
  have hg4 : g1 < w4.heap.size := Nat.lt_of_lt_of_le (hsz3 _) HN4.out.size
  have HB5 := hid (HB4.out.alloc HB4.out.size (.cells #[.int .i64 123, .int .u64 14468034567615334444, .int .u64 14468034567615334400, .bool false] 24))
  have HC5 := hid (CA.new w4 #[.int .i64 123, .int .u64 14468034567615334444, .int .u64 14468034567615334400, .bool false] 24)
  have q0 := (((Below.refl _ w4).alloc (Nat.le_refl _) (.cells #[.int .i64 123, .int .u64 14468034567615334444, .int .u64 14468034567615334400, .bool false] 24)).cell (p := ⟨g1, 0, none⟩) hg4).trans p0
  have q2 := (((Below.refl _ w4).alloc (Nat.le_refl _) (.cells #[.int .i64 123, .int .u64 14468034567615334444, .int .u64 14468034567615334400, .bool false] 24)).cell (p := ⟨g1, 2, none⟩) hg4).trans p2
  have hg5 : g1 < (w4.alloc (.cells #[.int .i64 123, .int .u64 14468034567615334444, .int .u64 14468034567615334400, .bool false] 24)).heap.size := by rw [size_al]; omega
  clear kk kk2 hsz3 HD1 HN4 HBB p0 p2 hg4 k03 k23 a0 a1 a2 a3 hC3 hg3 HB3 HG3
  generalize w4.alloc (.cells #[.int .i64 123, .int .u64 14468034567615334444, .int .u64 14468034567615334400, .bool false] 24) = W5 at *
  generalize w4.heap.size = g4 at *
  clear HB4
  have HL1 := HL (.slice none 0 0) (.slice none 0 0) W5
  clear HL
  go_upto_region 5 with (go_at_call 20; (with_reducible refine HL1.out.mono ?_); rintro e w6 ⟨rfl, hb6⟩; have HN6 := hid hb6; clear hb6)
  have HB6 := hid (HB5.out.trans (HN6.out.mono HB5.out.size))
  have HB7 := hid (HB6.out.alloc HB6.out.size (.cells #[.int .i64 0, .int .u64 0, .int .u64 0, .bool false] 24))
  have HC7 := hid ((HC5.out.call HN6.out).alloc (.cells #[.int .i64 0, .int .u64 0, .int .u64 0, .bool false] 24))
  have r0 := (((Below.refl _ w6).alloc (Nat.le_refl _) (.cells #[.int .i64 0, .int .u64 0, .int .u64 0, .bool false] 24)).cell (p := ⟨g1, 0, none⟩) (Nat.lt_of_lt_of_le hg5 HN6.out.size)).trans ((HN6.out.cell (p := ⟨g1, 0, none⟩) hg5).trans q0)
  have r2 := (((Below.refl _ w6).alloc (Nat.le_refl _) (.cells #[.int .i64 0, .int .u64 0, .int .u64 0, .bool false] 24)).cell (p := ⟨g1, 2, none⟩) (Nat.lt_of_lt_of_le hg5 HN6.out.size)).trans ((HN6.out.cell (p := ⟨g1, 2, none⟩) hg5).trans q2)
  clear q0 q2 hg5 HB6 HB5 HC5 HL1 HN6
  generalize w6.alloc (.cells #[.int .i64 0, .int .u64 0, .int .u64 0, .bool false] 24) = W7 at *
  have t0 := HC7.out.at (k := 0) (v := .int .i64 123) rfl
  have t1 := HC7.out.at (k := 1) (v := .int .u64 14468034567615334444) rfl
  have t2 := HC7.out.at (k := 2) (v := .int .u64 14468034567615334400) rfl
  clear HG HC7
  go_upto_region 6 with fail
  go_wp2
  go_ret
  exact ⟨rfl, HB7.out⟩
end Go.Proofs.YtlhakbkdlgejpaaGreatDoor
namespace Go.Proofs.YtlhakbkdlgejpaaGreatDoor
open Go.RowKit
theorem andNot_u64 (a b : Nat) (ha : a < 18446744073709551616) (hb : b < 18446744073709551616) : bits .andNot .u64 (a : Int) (b : Int) = ((a &&& (18446744073709551615 - b) : Nat) : Int) := by
  have hx : a &&& (18446744073709551615 - b) < 2 ^ 64 := Nat.and_lt_two_pow _ (by omega)
  have h1 : (BitVec.ofInt 64 (a : Int)).toNat = a := by
    rw [BitVec.ofInt_natCast, BitVec.toNat_ofNat]; exact Nat.mod_eq_of_lt (by omega)
  have h2 : (BitVec.ofInt 64 (b : Int)).toNat = b := by
    rw [BitVec.ofInt_natCast, BitVec.toNat_ofNat]; exact Nat.mod_eq_of_lt (by omega)
  show IntKind.u64.wrap ((BitVec.ofInt 64 (a : Int) &&& ~~~ BitVec.ofInt 64 (b : Int)).toNat : Int) = _
  rw [BitVec.toNat_and, BitVec.toNat_not, h1, h2, IntKind.wrap_u64]
  rw [show 2 ^ 64 - 1 - b = 18446744073709551615 - b by omega]
  omega
theorem xor_ones (n x : Nat) (hx : x < 2 ^ n) : (2 ^ n - 1) ^^^ x = 2 ^ n - 1 - x := by
  apply Nat.eq_of_testBit_eq
  intro j
  rw [show 2 ^ n - 1 - x = 2 ^ n - (x + 1) by omega, Nat.testBit_two_pow_sub_succ hx, Nat.testBit_xor, Nat.testBit_two_pow_sub_one]
  by_cases h : j < n
  · simp [h]
  · have : x.testBit j = false := Nat.testBit_lt_two_pow (Nat.lt_of_lt_of_le hx (Nat.pow_le_pow_right (by decide) (by omega)))
    simp [h, this]
theorem not_u64 (x : Nat) (hx : x < 18446744073709551616) : bits .xor .u64 IntKind.u64.max (x : Int) = ((18446744073709551615 - x : Nat) : Int) := by
  rw [show IntKind.u64.max = ((18446744073709551615 : Nat) : Int) from rfl, bits_xor_u64_nat _ _ (by decide) hx]
  rw [show (18446744073709551615 : Nat) ^^^ x = 18446744073709551615 - x from xor_ones 64 x hx]
theorem clo_not (w : World) : Does 105 #[] (fun x _ => 18446744073709551615 - x) w := fun W x y hb hx hy => by
  show Calls Tryz.prog 105 #[.int .u64 x, .int .u64 y] W fun e w' => e = .returned (.int .u64 ((18446744073709551615 - x : Nat) : Int)) ∧ Below W.heap.size W w'
  have HX := hid (not_u64 x hx)
  clear hb hx hy
  go_enter Tryz.func105, Tryz.ntmps105
  go_wp2
  go_ret
  exact ⟨ret_int HX.out, Below.refl _ _⟩
theorem clo_andnot (w : World) : Does 106 #[] (fun x y => x &&& (18446744073709551615 - y)) w := fun W x y hb hx hy => by
  show Calls Tryz.prog 106 #[.int .u64 x, .int .u64 y] W fun e w' => e = .returned (.int .u64 ((x &&& (18446744073709551615 - y) : Nat) : Int)) ∧ Below W.heap.size W w'
  have HX := hid (andNot_u64 x y hx hy)
  clear hb hx hy
  go_enter Tryz.func106, Tryz.ntmps106
  go_wp2
  go_ret
  exact ⟨ret_int HX.out, Below.refl _ _⟩
theorem operation_not (ff : Bool) (fb : Int) (tf : Bool) (tb : Int) (sg : Bool) (w : World) : Calls Tryz.prog 72 #[insV [110, 111, 116] ff fb tf tb sg] w (FnPost w (fun x _ => 18446744073709551615 - x)) := by
  unfold insV
  obtain ⟨s, hs⟩ : ∃ s, s = str [110, 111, 116] := ⟨_, rfl⟩
  rw [← hs]
  have z0 : (s.toList == [110, 111, 116]) = true := by rw [hs, str_list]; decide
  clear hs
  go_enter Tryz.func72, Tryz.ntmps72
  go_wp2
  go_ret
  exact ⟨105, #[], rfl, enters_of Tryz.func105 (by kernel_rfl) rfl, clo_not _, (Below.refl _ w).alloc (Nat.le_refl _) _⟩
theorem operation_andnot (ff : Bool) (fb : Int) (tf : Bool) (tb : Int) (sg : Bool) (w : World) : Calls Tryz.prog 72 #[insV [97, 110, 100, 110, 111, 116] ff fb tf tb sg] w (FnPost w (fun x y => x &&& (18446744073709551615 - y))) := by
  unfold insV
  obtain ⟨s, hs⟩ : ∃ s, s = str [97, 110, 100, 110, 111, 116] := ⟨_, rfl⟩
  rw [← hs]
  have z0 : (s.toList == [110, 111, 116]) = false := by rw [hs, str_list]; decide
  have z1 : (s.toList == [97, 110, 100, 110, 111, 116]) = true := by rw [hs, str_list]; decide
  clear hs
  go_enter Tryz.func72, Tryz.ntmps72
  go_wp2
  go_ret
  exact ⟨106, #[], rfl, enters_of Tryz.func106 (by kernel_rfl) rfl, clo_andnot _, (Below.refl _ w).alloc (Nat.le_refl _) _⟩
instance (c : Nat) (p : Nat → Prop) [DecidablePred p] : Decidable (∃ i, i < c ∧ p i) := decidable_of_iff (¬ ∀ i, i < c → ¬ p i) (by simp)
/-- Is there a number other than 0? -/
def anyN (c : Nat) (F : Nat → Nat) : Bool := decide (∃ i, i < c ∧ F i ≠ 0)
/-- Are all numbers other than 0? -/
def allN (c : Nat) (F : Nat → Nat) : Bool := decide (∀ i, i < c → F i ≠ 0)
theorem bit_says (b : Bool) (w : World) : Calls Tryz.prog 73 #[.bool b] w fun e w' => e = .returned (.int .u64 ((if b then 1 else 0 : Nat) : Int)) ∧ w = w' := by
  cases b with
  | false =>
    go_enter Tryz.func73, Tryz.ntmps73
    go_wp2
    go_ret
    exact ⟨rfl, rfl⟩
  | true =>
    go_enter Tryz.func73, Tryz.ntmps73
    go_wp2
    go_ret
    exact ⟨rfl, rfl⟩
theorem num1_says (x : Nat) (w : World) : Calls Tryz.prog 75 #[.int .u64 x] w fun e w' => e = .returned (.bool (decide (x ≠ 0))) ∧ w = w' := by
  have H := hid (show ((x : Int) != 0) = decide (x ≠ 0) by by_cases h : x = 0 <;> simp [h])
  generalize decide (x ≠ 0) = r at *
  go_enter Tryz.func75, Tryz.ntmps75
  go_wp2
  go_ret
  exact ⟨by rw [← H.out]; rfl, rfl⟩
set_option maxHeartbeats 4000000 in
theorem IdxF_says (c : Nat) (hc : c ≤ 16) (F : Nat → Nat) (v : Value) (w : World) (hr : RowAt w v c F) : Calls Tryz.prog 118 #[v, .func (.func 75) #[] #[]] w fun e w' => (∃ k : Int, e = .returned (.int .i64 k) ∧ -1 ≤ k ∧ k ≤ 16 ∧ (0 ≤ k ↔ ∃ i, i < c ∧ F i ≠ 0)) ∧ w = w' := by
  obtain ⟨g, o, cap, rfl, hg, hcap, hat⟩ := hr
  have HA := hid hat
  have eg : ∀ args w, (callFunc 75 args).run Tryz.prog w = .ok (.enter 75 args) w := enters_of Tryz.func75 (by kernel_rfl) rfl
  clear hat hcap
  go_enter Tryz.func118, Tryz.ntmps118
  go_wp2
  go_loopw [8] (fun vi wr => ∃ i : Nat, i ≤ c ∧ vi = .int .i64 i ∧ Hid (∀ j, j < i → F j = 0) ∧ w = wr) (fun vi _ => c - (intOf vi).toNat)
  case atStart => exact ⟨0, Nat.zero_le _, rfl, fun j hj => absurd hj (Nat.not_lt_zero _), rfl⟩
  case round =>
    obtain ⟨i, hin, rfl, HI, rfl⟩ := hrel
    by_cases hlt : i < c
    · have k1 := (HA.out i hlt).1
      clear HA
      by_cases h0 : F i ≠ 0
      · have HC : Hid (∃ i, i < c ∧ F i ≠ 0) := ⟨i, hlt, h0⟩
        have HN := fun W => hid (num1_says (F i) W)
        rw [show decide (F i ≠ 0) = true by simp [h0]] at HN
        generalize F i = x at *
        have HI0 := hid hlt
        clear HI
        go_wp2_with (go_at_fn 75; (with_reducible refine (HN _).out.mono ?_); rintro e w1 ⟨rfl, rfl⟩)
        go_ret
        exact ⟨⟨i, rfl, by omega, by omega, ⟨fun _ => HC.out, fun _ => by omega⟩⟩, rfl⟩
      · have HI2 := hid (show ∀ j, j < i + 1 → F j = 0 from fun j hj => by
          rcases Nat.lt_succ_iff_lt_or_eq.1 hj with h | rfl
          · exact HI.out j h
          · exact Decidable.not_not.1 h0)
        clear HI
        have HN := fun W => hid (num1_says (F i) W)
        rw [show decide (F i ≠ 0) = false by simp [h0]] at HN
        generalize F i = x at *
        go_wp2_with (go_at_fn 75; (with_reducible refine (HN _).out.mono ?_); rintro e w1 ⟨rfl, rfl⟩)
        go_roundw
        case rel => exact ⟨i + 1, hlt, rfl, HI2, by first | rfl | trivial⟩
        case measure => (simp [intOf]; omega)
    · obtain rfl : i = c := by omega
      clear HA
      go_wp2
      go_ret
      exact ⟨⟨-1, rfl, by omega, by omega, ⟨fun h => absurd h (by omega), fun ⟨j, hj, h⟩ => absurd (HI.out j hj) h⟩⟩, rfl⟩
set_option maxHeartbeats 4000000 in
theorem IdxL_says (c : Nat) (hc : c ≤ 16) (F : Nat → Nat) (v : Value) (w : World) (hr : RowAt w v c F) : Calls Tryz.prog 119 #[v, .int .u64 0] w fun e w' => (∃ k : Int, e = .returned (.int .i64 k) ∧ -1 ≤ k ∧ k ≤ 16 ∧ (0 ≤ k ↔ ∃ i, i < c ∧ F i = 0)) ∧ w = w' := by
  obtain ⟨g, o, cap, rfl, hg, hcap, hat⟩ := hr
  have HA := hid hat
  skip
  clear hat hcap
  go_enter Tryz.func119, Tryz.ntmps119
  go_wp2
  go_loopw [8] (fun vi wr => ∃ i : Nat, i ≤ c ∧ vi = .int .i64 i ∧ Hid (∀ j, j < i → F j ≠ 0) ∧ w = wr) (fun vi _ => c - (intOf vi).toNat)
  case atStart => exact ⟨0, Nat.zero_le _, rfl, fun j hj => absurd hj (Nat.not_lt_zero _), rfl⟩
  case round =>
    obtain ⟨i, hin, rfl, HI, rfl⟩ := hrel
    by_cases hlt : i < c
    · have k1 := (HA.out i hlt).1
      clear HA
      by_cases h0 : F i = 0
      · have HC : Hid (∃ i, i < c ∧ F i = 0) := ⟨i, hlt, h0⟩
        rw [h0] at k1
        have HI0 := hid hlt
        clear HI
        go_wp2
        go_ret
        exact ⟨⟨i, rfl, by omega, by omega, ⟨fun _ => HC.out, fun _ => by omega⟩⟩, rfl⟩
      · have HI2 := hid (show ∀ j, j < i + 1 → F j ≠ 0 from fun j hj => by
          rcases Nat.lt_succ_iff_lt_or_eq.1 hj with h | rfl
          · exact HI.out j h
          · exact h0)
        clear HI
        have hq : ((0 : Int) == (F i : Int)) = false := by simp; omega
        have hq2 : (0 = (F i : Int)) = False := by simp; omega
        generalize F i = x at *
        go_wp2
        go_roundw
        case rel => exact ⟨i + 1, hlt, rfl, HI2, by first | rfl | trivial⟩
        case measure => (simp [intOf]; omega)
    · obtain rfl : i = c := by omega
      clear HA
      go_wp2
      go_ret
      exact ⟨⟨-1, rfl, by omega, by omega, ⟨fun h => absurd h (by omega), fun ⟨j, hj, h⟩ => absurd h (HI.out j hj)⟩⟩, rfl⟩
end Go.Proofs.YtlhakbkdlgejpaaGreatDoor
namespace Go.Proofs.YtlhakbkdlgejpaaGreatDoor
open Go.RowKit
theorem ContF_says (c : Nat) (hc : c ≤ 16) (F : Nat → Nat) (v : Value) (w : World) (hr : RowAt w v c F) : Calls Tryz.prog 74 #[v, .func (.func 75) #[] #[]] w fun e w' => e = .returned (.bool (anyN c F)) ∧ w = w' := by
  have HI := hid (IdxF_says c hc F v w hr)
  clear hr
  go_enter Tryz.func74, Tryz.ntmps74
  go_wp2_with (go_at_call 118; (with_reducible refine HI.out.mono ?_); rintro e w1 ⟨⟨k, rfl, hk0, hk1, hk2⟩, rfl⟩; have HK := hid hk2; clear hk2)
  go_ret
  refine ⟨?_, rfl⟩
  unfold anyN
  exact congrArg (fun b => Ending.returned (.bool b)) (decide_eq_decide.2 HK.out)
theorem ContL_says (c : Nat) (hc : c ≤ 16) (F : Nat → Nat) (v : Value) (w : World) (hr : RowAt w v c F) : Calls Tryz.prog 76 #[v, .int .u64 0] w fun e w' => e = .returned (.bool (!allN c F)) ∧ w = w' := by
  have HI := hid (IdxL_says c hc F v w hr)
  clear hr
  go_enter Tryz.func76, Tryz.ntmps76
  go_wp2_with (go_at_call 119; (with_reducible refine HI.out.mono ?_); rintro e w1 ⟨⟨k, rfl, hk0, hk1, hk2⟩, rfl⟩; have HK := hid hk2; clear hk2)
  go_ret
  refine ⟨?_, rfl⟩
  unfold allN
  refine congrArg (fun b => Ending.returned (.bool b)) ?_
  by_cases h : 0 ≤ k
  · obtain ⟨i, h1, h2⟩ := HK.out.1 h
    rw [show decide (∀ i, i < c → F i ≠ 0) = false from decide_eq_false (fun hh => hh i h1 h2)]
    simpa using h
  · rw [show decide (∀ i, i < c → F i ≠ 0) = true from decide_eq_true (fun i h1 h2 => h (HK.out.2 ⟨i, h1, h2⟩))]
    simpa using h
/-- A bit for each lane: its first one. -/
def maskN (c n : Nat) (F : Nat → Nat) : Nat := packF 1 c (fun i => F i / 2 ^ (n - 1))
theorem maskN_lt (c n : Nat) (hc : c ≤ 16) (F : Nat → Nat) : maskN c n F < 65536 := by
  have := packF_lt 1 c (fun i => F i / 2 ^ (n - 1))
  refine Nat.lt_of_lt_of_le this ?_
  rw [Nat.one_mul]
  exact Nat.pow_le_pow_right (by decide) hc
theorem maskN_next (i n : Nat) (F : Nat → Nat) (hn : 1 ≤ n) (h : F i < 2 ^ n) : maskN i n F ||| F i / 2 ^ (n - 1) * 2 ^ i = maskN (i + 1) n F ∧ F i / 2 ^ (n - 1) < 2 := by
  have hb : F i / 2 ^ (n - 1) < 2 := by
    rw [Nat.div_lt_iff_lt_mul (Nat.two_pow_pos _)]
    rw [show 2 * 2 ^ (n - 1) = 2 ^ n by rw [Nat.mul_comm, ← Nat.pow_succ]; congr 1; omega]
    exact h
  have := packF_or 1 i (fun i => F i / 2 ^ (n - 1))
  simp only [Nat.one_mul, Nat.pow_one] at this
  rw [Nat.mod_eq_of_lt hb] at this
  exact ⟨this, hb⟩
set_option maxHeartbeats 4000000 in
theorem number_any (ff : Bool) (n : Nat) (tf : Bool) (tb : Int) (sg : Bool) (vi va : Value) (c : Nat) (hc1 : 1 ≤ c) (hc : c ≤ 16) (F : Nat → Nat) (w : World)
    (H0 : ∀ W, Below w.heap.size w W → Calls Tryz.prog 64 #[insV [97, 110, 121, 95, 116, 114, 117, 101] ff n tf tb sg, va, .int .i64 0] W (LPost W c F)) :
    Calls Tryz.prog 36 #[insV [97, 110, 121, 95, 116, 114, 117, 101] ff n tf tb sg, vi, va] w fun e w' => e = .returned (.int .u64 (if anyN c F then 1 else 0 : Nat)) ∧ Below w.heap.size w w' := by
  unfold insV at H0 ⊢
  obtain ⟨s, hs⟩ : ∃ s, s = str [97, 110, 121, 95, 116, 114, 117, 101] := ⟨_, rfl⟩
  rw [← hs] at H0 ⊢
  have z0 : (s.toList == [97, 110, 121, 95, 116, 114, 117, 101]) = true := by rw [hs, str_list]; decide
  have HH0 := fun W h => hid (H0 W h)
  clear hs H0
  have HC := fun v W h => hid (ContF_says c hc F v W h)
  have HB := fun b W => hid (bit_says b W)
  cases hb : anyN c F with
  | false =>
    simp only [hb, if_true, Bool.false_eq_true, if_false, Bool.not_false, Bool.not_true] at HC ⊢
    have HBB := HB false
    simp only [if_true, Bool.false_eq_true, if_false] at HBB
    clear HB hb
    go_enter Tryz.func36, Tryz.ntmps36
    go_wp2_with (first
      | (go_at_call 64; (with_reducible refine (HH0 _ ((Below.refl _ w).alloc (Nat.le_refl _) _)).out.mono ?_); rintro e w1 ⟨v1, rfl, ho1, hb1⟩; have HR1 := hid (RowAt.of_own ho1 hc1); have HX1 := hid (And.intro ((CA.new w _ 50).call hb1) (((Below.refl _ w).alloc (Nat.le_refl _) _).trans (hb1.mono (by simp)))); have x0 := HX1.out.1.at (k := 0) (v := .string s) rfl; clear ho1 hb1)
      | (go_at_call 74; (with_reducible refine (HC _ _ HR1.out).out.mono ?_); rintro e w2 ⟨rfl, rfl⟩)
      | (go_at_call 73; (with_reducible refine (HBB _).out.mono ?_); rintro e w3 ⟨rfl, rfl⟩))
    go_ret
    exact ⟨rfl, HX1.out.2⟩
  | true =>
    simp only [hb, if_true, Bool.false_eq_true, if_false, Bool.not_false, Bool.not_true] at HC ⊢
    have HBB := HB true
    simp only [if_true, Bool.false_eq_true, if_false] at HBB
    clear HB hb
    go_enter Tryz.func36, Tryz.ntmps36
    go_wp2_with (first
      | (go_at_call 64; (with_reducible refine (HH0 _ ((Below.refl _ w).alloc (Nat.le_refl _) _)).out.mono ?_); rintro e w1 ⟨v1, rfl, ho1, hb1⟩; have HR1 := hid (RowAt.of_own ho1 hc1); have HX1 := hid (And.intro ((CA.new w _ 50).call hb1) (((Below.refl _ w).alloc (Nat.le_refl _) _).trans (hb1.mono (by simp)))); have x0 := HX1.out.1.at (k := 0) (v := .string s) rfl; clear ho1 hb1)
      | (go_at_call 74; (with_reducible refine (HC _ _ HR1.out).out.mono ?_); rintro e w2 ⟨rfl, rfl⟩)
      | (go_at_call 73; (with_reducible refine (HBB _).out.mono ?_); rintro e w3 ⟨rfl, rfl⟩))
    go_ret
    exact ⟨rfl, HX1.out.2⟩
set_option maxHeartbeats 4000000 in
theorem number_all (ff : Bool) (n : Nat) (tf : Bool) (tb : Int) (sg : Bool) (vi va : Value) (c : Nat) (hc1 : 1 ≤ c) (hc : c ≤ 16) (F : Nat → Nat) (w : World)
    (H0 : ∀ W, Below w.heap.size w W → Calls Tryz.prog 64 #[insV [97, 108, 108, 95, 116, 114, 117, 101] ff n tf tb sg, va, .int .i64 0] W (LPost W c F)) :
    Calls Tryz.prog 36 #[insV [97, 108, 108, 95, 116, 114, 117, 101] ff n tf tb sg, vi, va] w fun e w' => e = .returned (.int .u64 (if allN c F then 1 else 0 : Nat)) ∧ Below w.heap.size w w' := by
  unfold insV at H0 ⊢
  obtain ⟨s, hs⟩ : ∃ s, s = str [97, 108, 108, 95, 116, 114, 117, 101] := ⟨_, rfl⟩
  rw [← hs] at H0 ⊢
  have z0 : (s.toList == [97, 110, 121, 95, 116, 114, 117, 101]) = false := by rw [hs, str_list]; decide
  have z1 : (s.toList == [97, 108, 108, 95, 116, 114, 117, 101]) = true := by rw [hs, str_list]; decide
  have HH0 := fun W h => hid (H0 W h)
  clear hs H0
  have HC := fun v W h => hid (ContL_says c hc F v W h)
  have HB := fun b W => hid (bit_says b W)
  cases hb : allN c F with
  | false =>
    simp only [hb, if_true, Bool.false_eq_true, if_false, Bool.not_false, Bool.not_true] at HC ⊢
    have HBB := HB false
    simp only [if_true, Bool.false_eq_true, if_false] at HBB
    clear HB hb
    go_enter Tryz.func36, Tryz.ntmps36
    go_wp2_with (first
      | (go_at_call 64; (with_reducible refine (HH0 _ ((Below.refl _ w).alloc (Nat.le_refl _) _)).out.mono ?_); rintro e w1 ⟨v1, rfl, ho1, hb1⟩; have HR1 := hid (RowAt.of_own ho1 hc1); have HX1 := hid (And.intro ((CA.new w _ 50).call hb1) (((Below.refl _ w).alloc (Nat.le_refl _) _).trans (hb1.mono (by simp)))); have x0 := HX1.out.1.at (k := 0) (v := .string s) rfl; clear ho1 hb1)
      | (go_at_call 76; (with_reducible refine (HC _ _ HR1.out).out.mono ?_); rintro e w2 ⟨rfl, rfl⟩)
      | (go_at_call 73; (with_reducible refine (HBB _).out.mono ?_); rintro e w3 ⟨rfl, rfl⟩))
    go_ret
    exact ⟨rfl, HX1.out.2⟩
  | true =>
    simp only [hb, if_true, Bool.false_eq_true, if_false, Bool.not_false, Bool.not_true] at HC ⊢
    have HBB := HB true
    simp only [if_true, Bool.false_eq_true, if_false] at HBB
    clear HB hb
    go_enter Tryz.func36, Tryz.ntmps36
    go_wp2_with (first
      | (go_at_call 64; (with_reducible refine (HH0 _ ((Below.refl _ w).alloc (Nat.le_refl _) _)).out.mono ?_); rintro e w1 ⟨v1, rfl, ho1, hb1⟩; have HR1 := hid (RowAt.of_own ho1 hc1); have HX1 := hid (And.intro ((CA.new w _ 50).call hb1) (((Below.refl _ w).alloc (Nat.le_refl _) _).trans (hb1.mono (by simp)))); have x0 := HX1.out.1.at (k := 0) (v := .string s) rfl; clear ho1 hb1)
      | (go_at_call 76; (with_reducible refine (HC _ _ HR1.out).out.mono ?_); rintro e w2 ⟨rfl, rfl⟩)
      | (go_at_call 73; (with_reducible refine (HBB _).out.mono ?_); rintro e w3 ⟨rfl, rfl⟩))
    go_ret
    exact ⟨rfl, HX1.out.2⟩
set_option maxHeartbeats 4000000 in
theorem number_mask (ff : Bool) (n : Nat) (hn : Okn n) (tf : Bool) (tb : Int) (sg : Bool) (vi va : Value) (c : Nat) (hc1 : 1 ≤ c) (hc : c ≤ 16) (F : Nat → Nat) (hF : ∀ i, F i < 2 ^ n) (w : World)
    (H0 : ∀ W, Below w.heap.size w W → Calls Tryz.prog 64 #[insV [98, 105, 116, 109, 97, 115, 107] ff n tf tb sg, va, .int .i64 0] W (LPost W c F)) :
    Calls Tryz.prog 36 #[insV [98, 105, 116, 109, 97, 115, 107] ff n tf tb sg, vi, va] w fun e w' => e = .returned (.int .u64 (maskN c n F : Nat)) ∧ Below w.heap.size w w' := by
  unfold insV at H0 ⊢
  obtain ⟨s, hs⟩ : ∃ s, s = str [98, 105, 116, 109, 97, 115, 107] := ⟨_, rfl⟩
  rw [← hs] at H0 ⊢
  have z0 : (s.toList == [97, 110, 121, 95, 116, 114, 117, 101]) = false := by rw [hs, str_list]; decide
  have z1 : (s.toList == [97, 108, 108, 95, 116, 114, 117, 101]) = false := by rw [hs, str_list]; decide
  have z2 : (s.toList == [98, 105, 116, 109, 97, 115, 107]) = true := by rw [hs, str_list]; decide
  have HH0 := fun W h => hid (H0 W h)
  clear hs H0
  obtain ⟨m, hm⟩ : ∃ m, m = n - 1 := ⟨_, rfl⟩
  have hn1 := hn.cases
  have i1 : (n : Int) - 1 = (m : Int) := by omega
  have hm64 : m < 64 := by omega
  have hnn : 1 ≤ n := by omega
  have HN1 := hid hnn
  have HF := hid hF
  have HM := hid hm
  have HCC := hid hc
  have hF64 := hid (show ∀ i, F i < 18446744073709551616 from fun i => Nat.lt_of_lt_of_le (hF i) (Nat.pow_le_pow_right (by decide) (show n ≤ 64 by omega)))
  have HLT := hid (fun i (h : i ≤ c) => maskN_lt i n (Nat.le_trans h hc) F)
  clear hn hn1 hF hm hnn
  go_enter Tryz.func36, Tryz.ntmps36
  go_upto_region 9 with (go_at_call 64; (with_reducible refine (HH0 _ ((Below.refl _ w).alloc (Nat.le_refl _) _)).out.mono ?_); rintro e w1 ⟨v1, rfl, ho1, hb1⟩; have HR1 := hid (RowAt.of_own ho1 hc1); have HX1 := hid (And.intro ((CA.new w _ 50).call hb1) (((Below.refl _ w).alloc (Nat.le_refl _) _).trans (hb1.mono (by simp)))); have x0 := HX1.out.1.at (k := 0) (v := .string s) rfl; clear ho1 hb1)
  have x2 := HX1.out.1.at (k := 2) (v := .int .i64 n) rfl
  obtain ⟨g1, o1, cap1, rfl, hg1, hcap1, hat1⟩ := HR1.out
  have HA := hid hat1
  have HB1 := hid HX1.out.2
  clear hat1 HR1 HX1 HH0 x0
  go_wp2
  go_loopw [8, 32] (fun vm vi wr => ∃ i : Nat, i ≤ c ∧ vi = .int .i64 i ∧ vm = .int .u64 (maskN i n F : Nat) ∧ w1 = wr) (fun _ vi _ => c - (intOf vi).toNat)
  case atStart => exact ⟨0, Nat.zero_le _, rfl, rfl, rfl⟩
  case round =>
    obtain ⟨i, hin, rfl, rfl, rfl⟩ := hrel
    by_cases hlt : i < c
    · have k1 := (HA.out i hlt).1
      have hnx := maskN_next i n F HN1.out (HF.out i)
      rw [← HM.out] at hnx
      have hml : maskN i n F < 65536 := HLT.out i hin
      have hfl := hF64.out i
      have h16 : i < 16 := Nat.lt_of_lt_of_le hlt HCC.out
      have hy : F i / 2 ^ m * 2 ^ i < 18446744073709551616 := by
        have h1 : 2 ^ i ≤ 2 ^ 15 := Nat.pow_le_pow_right (by decide) (by omega)
        have h2 : F i / 2 ^ m * 2 ^ i ≤ 1 * 2 ^ 15 := Nat.mul_le_mul (by omega) h1
        omega
      have hor := shl_or (show maskN i n F < 18446744073709551616 by omega) hy
      rw [hnx.1] at hor
      have hdiv : ((F i : Int) / 2 ^ m) = ((F i / 2 ^ m : Nat) : Int) := by simp
      clear hnx HF HM HA hy hF64 HLT hml
      obtain ⟨M2, hM2⟩ : ∃ M2, M2 = maskN (i + 1) n F := ⟨_, rfl⟩
      rw [← hM2] at hor
      have HM2 := hid hM2
      clear hM2
      generalize F i / 2 ^ m = b at *
      generalize F i = x at *
      generalize maskN i n F = M1 at *
      have hmin : min m 64 = m := Nat.min_eq_left (by omega)
      have hmin2 : min i 64 = i := Nat.min_eq_left (by omega)
      go_wp2
      go_roundw
      case rel => exact ⟨i + 1, hlt, rfl, congrArg (fun x : Nat => Value.int .u64 (x : Int)) HM2.out, by first | rfl | trivial⟩
      case measure => (simp [intOf]; omega)
    · obtain rfl : i = c := by omega
      have HL := HLT
      clear HF HM HA hF64
      go_wp2_with fail
      go_ret
      exact ⟨rfl, HB1.out⟩
end Go.Proofs.YtlhakbkdlgejpaaGreatDoor
