/-
  LAwakeC: merged (each text says what it holds where it lies in wip). No condition.
-/
import Derived.Test.YtibfpjnfkknacaaGreatDoorM29
set_option linter.unusedSimpArgs false
set_option linter.unusedVariables false
namespace Go.Proofs.YtibfpjnfkknacaaGreatDoor
open Go.RowKit

theorem chkBin_c (op : Int) (h : chkBin op = true) : chkC true op = true ∧ chkI op = true := by
  unfold chkBin at h
  simp only [Bool.and_eq_true] at h
  exact ⟨h.1.1.1.1.1.1.1.1, h.1.1.1.1.1.1.1.2⟩
theorem chkRel_c (op : Int) (h : chkRel op = true) : chkC true op = true ∧ chkI op = true := by
  unfold chkRel at h
  simp only [Bool.and_eq_true] at h
  exact ⟨h.1.1.1.1.1, h.1.1.1.1.2⟩
theorem chkUn_c (op : Int) (h : chkUn op = true) : chkC false op = true ∧ chkI op = true := by
  unfold chkUn at h
  simp only [Bool.and_eq_true] at h
  exact ⟨h.1.1, h.1.2⟩
theorem and_1023 (a : Int) : ∃ K : Nat, K ≤ 1023 ∧ bits .and .i64 a 1023 = (K : Int) := by
  refine ⟨(BitVec.ofInt 64 a).toNat &&& 1023, Nat.and_le_right, ?_⟩
  have hle : (BitVec.ofInt 64 a).toNat &&& 1023 ≤ 1023 := Nat.and_le_right
  have e2 : BitVec.toNat (BitVec.ofInt 64 1023) = 1023 := by decide
  show IntKind.i64.wrap ((BitVec.ofInt 64 a &&& BitVec.ofInt 64 1023).toNat : Int) = _
  rw [BitVec.toNat_and, e2, IntKind.wrap_i64]
  generalize (BitVec.ofInt 64 a).toNat &&& 1023 = q at *
  omega
theorem row16 (w : World) : RowAt (w.alloc (.cells #[.int .u64 200, .int .u64 200, .int .u64 200, .int .u64 200, .int .u64 200, .int .u64 200, .int .u64 200, .int .u64 200, .int .u64 200, .int .u64 200, .int .u64 200, .int .u64 200, .int .u64 200, .int .u64 200, .int .u64 200, .int .u64 200] 22)) (.slice (some ⟨w.heap.size, 0, none⟩) 16 16) 16 (fun _ => 200) := by
  have h := CA.new w #[.int .u64 200, .int .u64 200, .int .u64 200, .int .u64 200, .int .u64 200, .int .u64 200, .int .u64 200, .int .u64 200, .int .u64 200, .int .u64 200, .int .u64 200, .int .u64 200, .int .u64 200, .int .u64 200, .int .u64 200, .int .u64 200] 22
  refine ⟨_, 0, 16, rfl, h.lt, Nat.le_refl _, fun j hj => ?_⟩
  rw [Nat.zero_add]
  refine ⟨h.at (k := j) ?_, h.free j⟩
  rcases (show j = 0 ∨ j = 1 ∨ j = 2 ∨ j = 3 ∨ j = 4 ∨ j = 5 ∨ j = 6 ∨ j = 7 ∨ j = 8 ∨ j = 9 ∨ j = 10 ∨ j = 11 ∨ j = 12 ∨ j = 13 ∨ j = 14 ∨ j = 15 by omega) with rfl | rfl | rfl | rfl | rfl | rfl | rfl | rfl | rfl | rfl | rfl | rfl | rfl | rfl | rfl | rfl <;> rfl
theorem ar_two (w : World) (alo ahi blo bhi : Nat) (T : TypeId) : AR (w.alloc (.cells #[.int .i64 123, .int .u64 (alo : Nat), .int .u64 (ahi : Nat), .bool false, .int .i64 123, .int .u64 (blo : Nat), .int .u64 (bhi : Nat), .bool false] T)) (.slice (some ⟨w.heap.size, 0, none⟩) 2 2) [(123, alo, ahi, false), (123, blo, bhi, false)] := by
  have h := CA.new w #[.int .i64 123, .int .u64 (alo : Nat), .int .u64 (ahi : Nat), .bool false, .int .i64 123, .int .u64 (blo : Nat), .int .u64 (bhi : Nat), .bool false] T
  refine ⟨_, 2, rfl, h.lt, Nat.le_refl _, fun j c hj => ?_⟩
  match j, hj with
  | 0, hj =>
    obtain rfl : (123, alo, ahi, false) = c := by simpa using hj
    exact ⟨h.at (k := 0) rfl, h.at (k := 1) rfl, h.at (k := 2) rfl, h.at (k := 3) rfl⟩
  | 1, hj =>
    obtain rfl : (123, blo, bhi, false) = c := by simpa using hj
    exact ⟨h.at (k := 4) rfl, h.at (k := 5) rfl, h.at (k := 6) rfl, h.at (k := 7) rfl⟩
  | j + 2, hj => simp at hj
set_option maxHeartbeats 4000000 in
set_option maxRecDepth 100000 in
theorem awake_says (w : World) (hg : Glob w) : Calls Tryz.prog 17 #[] w fun e w' => e = .returned (.bool true) ∧ Below w.heap.size w w' := by
  have HS : ∀ W, Hid (Calls Tryz.prog 20 #[.int .i64 32, .agg #[.int .i64 0, .int .u64 4294967297, .int .u64 3, .bool false]] W (LPost W 4 (splitF 32 4294967297 3))) := fun W => hid (Split_says 32 (by right; right; left; rfl) 0 4294967297 3 false (by decide) (by decide) W)
  have hJ1 : loF 8 (fun _ => 200) = 14468034567615334600 := by decide +kernel
  have hJ2 : hiF 8 (fun _ => 200) = 14468034567615334600 := by decide +kernel
  have HJ : ∀ W v, RowAt W v 16 (fun _ => 200) → Hid (Calls Tryz.prog 21 #[.int .i64 8, v] W fun e w' => e = .returned (.tuple #[.agg #[.int .i64 123, .int .u64 14468034567615334600, .int .u64 14468034567615334600, .bool false], .int .i64 0]) ∧ Below W.heap.size W w') := fun W v h => by
    have H := Join_says 8 (by left; rfl) v (fun _ => 200) W h (fun _ _ => by decide)
    rw [hJ1, hJ2] at H
    exact hid H
  have HD : ∀ W, Glob W → ∀ va, AR W va [(123, 14468034567615334600, 14468034567615334600, false), (123, 100, 56, false)] → Hid (Calls Tryz.prog 18 #[.int .i64 64878, .slice none 0 0, va] W fun e w' => e = .returned (.tuple #[.agg #[.int .i64 123, .int .u64 14468034567615334444, .int .u64 14468034567615334400, .bool false], .int .i64 0]) ∧ Below W.heap.size W w') := fun W h va ha => hid (Do_awake W h va ha)
  have HL : ∀ vi va W, Hid (Calls Tryz.prog 18 #[.int .i64 106, vi, va] W fun e w' => e = .returned (.tuple #[.agg #[.int .i64 0, .int .u64 0, .int .u64 0, .bool false], .int .i64 1]) ∧ Below W.heap.size W w') := fun vi va W => hid (Do_low 106 (by decide) vi va W)
  have HG := hid hg
  clear hJ1 hJ2 hg
  go_enter Tryz.func17, Tryz.ntmps17
  go_upto_region 2 with (go_at_call 20; (with_reducible refine (HS _).out.mono ?_); rintro e w1 ⟨v1, rfl, ho1, hb1⟩; have HO1 := hid ho1; have HB1 := hid hb1; clear ho1 hb1)
  obtain ⟨g1, c1, rfl⟩ : ∃ g cap, v1 = .slice (some ⟨g, 0, none⟩) 4 cap := owned_at HO1.out (by decide)
  have k0 : w1.cell? ⟨g1, 0, none⟩ = some (.int .u64 1) := HO1.out.cellAt 0 (by decide)
  have k2 : w1.cell? ⟨g1, 2, none⟩ = some (.int .u64 3) := HO1.out.cellAt 2 (by decide)
  have hg1 : g1 < w1.heap.size := (HO1.out.lt g1 rfl).2
  clear HO1 HS
  have HJ1 := HJ _ _ (row16 w1)
  clear HJ
  go_upto_region 3 with (go_at_call 21; (with_reducible refine HJ1.out.mono ?_); rintro e w2 ⟨rfl, hb2⟩; have HN2 := hid (below_new hb2); clear hb2)
  have hB2 : Below w.heap.size w w2 := HB1.out.trans (HN2.out.2.mono HB1.out.size)
  have k02 := (HN2.out.2.cell (p := ⟨g1, 0, none⟩) hg1).trans k0
  have k22 := (HN2.out.2.cell (p := ⟨g1, 2, none⟩) hg1).trans k2
  have hg2 : g1 < w2.heap.size := Nat.lt_of_lt_of_le hg1 HN2.out.2.size
  have HG3 := hid (HG.out.next (hB2.alloc hB2.size (.cells #[.int .i64 123, .int .u64 14468034567615334600, .int .u64 14468034567615334600, .bool false] 24)))
  have HB3 := hid (hB2.alloc hB2.size (.cells #[.int .i64 123, .int .u64 14468034567615334600, .int .u64 14468034567615334600, .bool false] 24))
  have hC3 := CA.new w2 #[.int .i64 123, .int .u64 14468034567615334600, .int .u64 14468034567615334600, .bool false] 24
  have k03 := (((Below.refl _ w2).alloc (Nat.le_refl _) (.cells #[.int .i64 123, .int .u64 14468034567615334600, .int .u64 14468034567615334600, .bool false] 24)).cell (p := ⟨g1, 0, none⟩) hg2).trans k02
  have k23 := (((Below.refl _ w2).alloc (Nat.le_refl _) (.cells #[.int .i64 123, .int .u64 14468034567615334600, .int .u64 14468034567615334600, .bool false] 24)).cell (p := ⟨g1, 2, none⟩) hg2).trans k22
  have hg3 : g1 < (w2.alloc (.cells #[.int .i64 123, .int .u64 14468034567615334600, .int .u64 14468034567615334600, .bool false] 24)).heap.size := by rw [size_al]; omega
  generalize w2.alloc (.cells #[.int .i64 123, .int .u64 14468034567615334600, .int .u64 14468034567615334600, .bool false] 24) = W3 at *
  generalize w2.heap.size = g2 at *
  clear k0 k2 k02 k22 hg1 hg2 HN2 hB2 HJ1 HB1
  have a0 := hC3.at (k := 0) (v := .int .i64 123) rfl
  have a1 := hC3.at (k := 1) (v := .int .u64 14468034567615334600) rfl
  have a2 := hC3.at (k := 2) (v := .int .u64 14468034567615334600) rfl
  have a3 := hC3.at (k := 3) (v := .bool false) rfl
  have HD1 := HD _ (HG.out.next (HB3.out.alloc HB3.out.size (.cells #[.int .i64 123, .int .u64 14468034567615334600, .int .u64 14468034567615334600, .bool false, .int .i64 123, .int .u64 100, .int .u64 56, .bool false] 24))) _ (ar_two W3 14468034567615334600 14468034567615334600 100 56 24)
  have HBB := hid (HB3.out.alloc HB3.out.size (.cells #[.int .i64 123, .int .u64 14468034567615334600, .int .u64 14468034567615334600, .bool false, .int .i64 123, .int .u64 100, .int .u64 56, .bool false] 24))
  have kk := fun o => (((Below.refl _ W3).alloc (Nat.le_refl _) o).cell (p := ⟨g1, 0, none⟩) hg3).trans k03
  have kk2 := fun o => (((Below.refl _ W3).alloc (Nat.le_refl _) o).cell (p := ⟨g1, 2, none⟩) hg3).trans k23
  have hsz3 : ∀ o, g1 < (W3.alloc o).heap.size := fun o => by rw [size_al]; omega
  clear HD
  go_upto_region 4 with (go_at_call 18; (with_reducible refine HD1.out.mono ?_); rintro e w4 ⟨rfl, hb4⟩; have HN4 := hid hb4; clear hb4)
  have HB4 := hid (HBB.out.trans (HN4.out.mono HBB.out.size))
  have p0 := (HN4.out.cell (p := ⟨g1, 0, none⟩) (hsz3 _)).trans (kk _)
  have p2 := (HN4.out.cell (p := ⟨g1, 2, none⟩) (hsz3 _)).trans (kk2 _)
  have hg4 : g1 < w4.heap.size := Nat.lt_of_lt_of_le (hsz3 _) HN4.out.size
  have HB5 := hid (HB4.out.alloc HB4.out.size (.cells #[.int .i64 123, .int .u64 14468034567615334444, .int .u64 14468034567615334400, .bool false] 24))
  have HC5 := hid (CA.new w4 #[.int .i64 123, .int .u64 14468034567615334444, .int .u64 14468034567615334400, .bool false] 24)
  have q0 := (((Below.refl _ w4).alloc (Nat.le_refl _) (.cells #[.int .i64 123, .int .u64 14468034567615334444, .int .u64 14468034567615334400, .bool false] 24)).cell (p := ⟨g1, 0, none⟩) hg4).trans p0
  have q2 := (((Below.refl _ w4).alloc (Nat.le_refl _) (.cells #[.int .i64 123, .int .u64 14468034567615334444, .int .u64 14468034567615334400, .bool false] 24)).cell (p := ⟨g1, 2, none⟩) hg4).trans p2
  have hg5 : g1 < (w4.alloc (.cells #[.int .i64 123, .int .u64 14468034567615334444, .int .u64 14468034567615334400, .bool false] 24)).heap.size := by rw [size_al]; omega
  clear kk kk2 hsz3 HD1 HN4 HBB p0 p2 hg4 k03 k23 a0 a1 a2 a3 hC3 hg3 HB3 HG3
  generalize w4.alloc (.cells #[.int .i64 123, .int .u64 14468034567615334444, .int .u64 14468034567615334400, .bool false] 24) = W5 at *
  generalize w4.heap.size = g4 at *
  clear HB4
  have HL1 := HL (.slice none 0 0) (.slice none 0 0) W5
  clear HL
  go_upto_region 5 with (go_at_call 18; (with_reducible refine HL1.out.mono ?_); rintro e w6 ⟨rfl, hb6⟩; have HN6 := hid hb6; clear hb6)
  have HB6 := hid (HB5.out.trans (HN6.out.mono HB5.out.size))
  have HB7 := hid (HB6.out.alloc HB6.out.size (.cells #[.int .i64 0, .int .u64 0, .int .u64 0, .bool false] 24))
  have HC7 := hid ((HC5.out.call HN6.out).alloc (.cells #[.int .i64 0, .int .u64 0, .int .u64 0, .bool false] 24))
  have r0 := (((Below.refl _ w6).alloc (Nat.le_refl _) (.cells #[.int .i64 0, .int .u64 0, .int .u64 0, .bool false] 24)).cell (p := ⟨g1, 0, none⟩) (Nat.lt_of_lt_of_le hg5 HN6.out.size)).trans ((HN6.out.cell (p := ⟨g1, 0, none⟩) hg5).trans q0)
  have r2 := (((Below.refl _ w6).alloc (Nat.le_refl _) (.cells #[.int .i64 0, .int .u64 0, .int .u64 0, .bool false] 24)).cell (p := ⟨g1, 2, none⟩) (Nat.lt_of_lt_of_le hg5 HN6.out.size)).trans ((HN6.out.cell (p := ⟨g1, 2, none⟩) hg5).trans q2)
  clear q0 q2 hg5 HB6 HB5 HC5 HL1 HN6
  generalize w6.alloc (.cells #[.int .i64 0, .int .u64 0, .int .u64 0, .bool false] 24) = W7 at *
  have t0 := HC7.out.at (k := 0) (v := .int .i64 123) rfl
  have t1 := HC7.out.at (k := 1) (v := .int .u64 14468034567615334444) rfl
  have t2 := HC7.out.at (k := 2) (v := .int .u64 14468034567615334400) rfl
  clear HG HC7
  go_upto_region 6 with fail
  go_wp2
  go_ret
  exact ⟨rfl, HB7.out⟩
end Go.Proofs.YtibfpjnfkknacaaGreatDoor
