/-
  Instructions of floats: floats as integers that are held: both sides come to the same. Condition: the instruction is as its Boolean asks.
-/
import Derived.Test.YtlhakbkdlgejpaaGreatDoorB10
import Derived.Test.YtlhakbkdlgejpaaGreatDoorF10
import Derived.Test.YtlhakbkdlgejpaaGreatDoorF13
set_option linter.unusedSimpArgs false
set_option linter.unusedVariables false
set_option maxRecDepth 100000
namespace Go.Proofs.YtlhakbkdlgejpaaGreatDoor.Sc
open Go.RowKit

theorem sat_0 (SB INF P : Nat) (low : Int) (n : Nat) (s : Bool) (c : Nat) : (Fl.truncW SB INF P low n s true c).2 = 0 := by
  unfold Fl.truncW
  split
  · rfl
  · unfold Fl.truncM
    split
    · rfl
    · rfl
noncomputable def heldB (op : Int) (ty lv : Int) (sg : Bool) : Bool := rowB op [ty] lv && (((nm7 op).drop 4 == [101, 113, 122]) == false) && decide (((nm7 op).drop 4).length = 15) && ((((nm7 op).drop 4).take 8 == [101, 120, 116, 101, 110, 100, 95, 105]) == false) && (((nm7 op).drop 4).take 5 == [116, 114, 117, 110, 99]) && (((nm7 op).drop 4).take 4 == [116, 114, 117, 110]) && (((nm7 op).drop 4).take 9 == [116, 114, 117, 110, 99, 95, 115, 97, 116]) && ((((nm7 op).drop 4).drop 13 == [95, 115]) == sg)
theorem held_64512_row : heldB 64512 125 127 true = true := by kernel_rfl
theorem held_64512 (a b : Nat) (ha : a < 18446744073709551616) (hb : b < 18446744073709551616) : Good 64512 a b := by
  have h := held_64512_row
  unfold heldB at h
  simp only [Bool.and_eq_true, decide_eq_true_eq, beq_iff_eq] at h
  obtain ⟨⟨⟨⟨⟨⟨⟨hrow, h0⟩, hl⟩, px⟩, pt⟩, p4⟩, p9⟩, ps⟩ := h
  have ha' := cutT_lt 125 a ha
  have hs := sat_0 2147483648 2139095040 23 (-149) 32 true ((cutT 125 a) % 4294967296)
  have HP : Ans 141 #[.int .i64 32, .int .i64 32, .bool true, .bool true, .int .u64 (cutT 125 a : Nat)] (.tuple #[.int .u64 ((Fl.truncW 2147483648 2139095040 23 (-149) 32 true true ((cutT 125 a) % 4294967296)).1 : Nat), .int .i64 ((0 : Nat) : Int)]) := fun W => by
    have := Fl.Trunc_32_32 true true (cutT 125 a) ha' W
    rw [hs] at this
    exact this
  have HR : Ans 211 #[.int .i64 32, .int .i64 32, .bool true, .bool true, .int .u64 (cutT 125 a : Nat)] (.tuple #[.int .u64 ((Fl.truncW 2147483648 2139095040 23 (-149) 32 true true ((cutT 125 a) % 4294967296)).1 : Nat), .int .i64 ((0 : Nat) : Int)]) := fun W => by
    have := Fl.RTrunc_32_32 true true (cutT 125 a) ha' W
    rw [hs] at this
    exact this
  refine good_of 64512 [125] 127 hrow a b (Fl.truncW 2147483648 2139095040 23 (-149) 32 true true ((cutT 125 a) % 4294967296)).1 0 ?_ ?_
  · show AnsG 50 #[.int .i64 64512, .int .u64 (((cutT 125 a) : Nat) : Int), .int .u64 ((0 : Nat) : Int)] _
    exact Ans.g (res_s32 64512 0 (by decide) (by decide) (by decide) (cutT 125 a) 0 _ _ (truncated_says 32 0 true (cutT 125 a) (by decide) (by decide) _ _ HP))
  · show Ans 91 #[.string (str ((nm7 64512).take 1)), .int .i64 ((32 : Nat) : Int), .int .i64 127, .string (str ((nm7 64512).drop 4)), .int .u64 (((cutT 125 a) : Nat) : Int), .int .u64 ((0 : Nat) : Int)] _
    exact worked_sat _ _ h0 hl px (beq_iff_eq.2 pt) _ _ _ _ _ _ (turned_sat _ hl (beq_iff_eq.2 p4) (beq_iff_eq.2 p9) true (beq_iff_eq.2 ps) _ _ _ _ _ HR)
theorem held_64513_row : heldB 64513 125 127 false = true := by kernel_rfl
theorem held_64513 (a b : Nat) (ha : a < 18446744073709551616) (hb : b < 18446744073709551616) : Good 64513 a b := by
  have h := held_64513_row
  unfold heldB at h
  simp only [Bool.and_eq_true, decide_eq_true_eq, beq_iff_eq] at h
  obtain ⟨⟨⟨⟨⟨⟨⟨hrow, h0⟩, hl⟩, px⟩, pt⟩, p4⟩, p9⟩, ps⟩ := h
  have ha' := cutT_lt 125 a ha
  have hs := sat_0 2147483648 2139095040 23 (-149) 32 false ((cutT 125 a) % 4294967296)
  have HP : Ans 141 #[.int .i64 32, .int .i64 32, .bool false, .bool true, .int .u64 (cutT 125 a : Nat)] (.tuple #[.int .u64 ((Fl.truncW 2147483648 2139095040 23 (-149) 32 false true ((cutT 125 a) % 4294967296)).1 : Nat), .int .i64 ((0 : Nat) : Int)]) := fun W => by
    have := Fl.Trunc_32_32 false true (cutT 125 a) ha' W
    rw [hs] at this
    exact this
  have HR : Ans 211 #[.int .i64 32, .int .i64 32, .bool false, .bool true, .int .u64 (cutT 125 a : Nat)] (.tuple #[.int .u64 ((Fl.truncW 2147483648 2139095040 23 (-149) 32 false true ((cutT 125 a) % 4294967296)).1 : Nat), .int .i64 ((0 : Nat) : Int)]) := fun W => by
    have := Fl.RTrunc_32_32 false true (cutT 125 a) ha' W
    rw [hs] at this
    exact this
  refine good_of 64513 [125] 127 hrow a b (Fl.truncW 2147483648 2139095040 23 (-149) 32 false true ((cutT 125 a) % 4294967296)).1 0 ?_ ?_
  · show AnsG 50 #[.int .i64 64513, .int .u64 (((cutT 125 a) : Nat) : Int), .int .u64 ((0 : Nat) : Int)] _
    exact Ans.g (res_s32 64513 1 (by decide) (by decide) (by decide) (cutT 125 a) 0 _ _ (truncated_says 32 1 true (cutT 125 a) (by decide) (by decide) _ _ HP))
  · show Ans 91 #[.string (str ((nm7 64513).take 1)), .int .i64 ((32 : Nat) : Int), .int .i64 127, .string (str ((nm7 64513).drop 4)), .int .u64 (((cutT 125 a) : Nat) : Int), .int .u64 ((0 : Nat) : Int)] _
    exact worked_sat _ _ h0 hl px (beq_iff_eq.2 pt) _ _ _ _ _ _ (turned_sat _ hl (beq_iff_eq.2 p4) (beq_iff_eq.2 p9) false ps _ _ _ _ _ HR)
theorem held_64514_row : heldB 64514 124 127 true = true := by kernel_rfl
theorem held_64514 (a b : Nat) (ha : a < 18446744073709551616) (hb : b < 18446744073709551616) : Good 64514 a b := by
  have h := held_64514_row
  unfold heldB at h
  simp only [Bool.and_eq_true, decide_eq_true_eq, beq_iff_eq] at h
  obtain ⟨⟨⟨⟨⟨⟨⟨hrow, h0⟩, hl⟩, px⟩, pt⟩, p4⟩, p9⟩, ps⟩ := h
  have ha' := cutT_lt 124 a ha
  have hs := sat_0 9223372036854775808 9218868437227405312 52 (-1074) 32 true ((cutT 124 a) % 18446744073709551616)
  have HP : Ans 141 #[.int .i64 64, .int .i64 32, .bool true, .bool true, .int .u64 (cutT 124 a : Nat)] (.tuple #[.int .u64 ((Fl.truncW 9223372036854775808 9218868437227405312 52 (-1074) 32 true true ((cutT 124 a) % 18446744073709551616)).1 : Nat), .int .i64 ((0 : Nat) : Int)]) := fun W => by
    have := Fl.Trunc_64_32 true true (cutT 124 a) ha' W
    rw [hs] at this
    exact this
  have HR : Ans 211 #[.int .i64 64, .int .i64 32, .bool true, .bool true, .int .u64 (cutT 124 a : Nat)] (.tuple #[.int .u64 ((Fl.truncW 9223372036854775808 9218868437227405312 52 (-1074) 32 true true ((cutT 124 a) % 18446744073709551616)).1 : Nat), .int .i64 ((0 : Nat) : Int)]) := fun W => by
    have := Fl.RTrunc_64_32 true true (cutT 124 a) ha' W
    rw [hs] at this
    exact this
  refine good_of 64514 [124] 127 hrow a b (Fl.truncW 9223372036854775808 9218868437227405312 52 (-1074) 32 true true ((cutT 124 a) % 18446744073709551616)).1 0 ?_ ?_
  · show AnsG 50 #[.int .i64 64514, .int .u64 (((cutT 124 a) : Nat) : Int), .int .u64 ((0 : Nat) : Int)] _
    exact Ans.g (res_s32 64514 2 (by decide) (by decide) (by decide) (cutT 124 a) 0 _ _ (truncated_says 32 2 true (cutT 124 a) (by decide) (by decide) _ _ HP))
  · show Ans 91 #[.string (str ((nm7 64514).take 1)), .int .i64 ((64 : Nat) : Int), .int .i64 127, .string (str ((nm7 64514).drop 4)), .int .u64 (((cutT 124 a) : Nat) : Int), .int .u64 ((0 : Nat) : Int)] _
    exact worked_sat _ _ h0 hl px (beq_iff_eq.2 pt) _ _ _ _ _ _ (turned_sat _ hl (beq_iff_eq.2 p4) (beq_iff_eq.2 p9) true (beq_iff_eq.2 ps) _ _ _ _ _ HR)
theorem held_64515_row : heldB 64515 124 127 false = true := by kernel_rfl
theorem held_64515 (a b : Nat) (ha : a < 18446744073709551616) (hb : b < 18446744073709551616) : Good 64515 a b := by
  have h := held_64515_row
  unfold heldB at h
  simp only [Bool.and_eq_true, decide_eq_true_eq, beq_iff_eq] at h
  obtain ⟨⟨⟨⟨⟨⟨⟨hrow, h0⟩, hl⟩, px⟩, pt⟩, p4⟩, p9⟩, ps⟩ := h
  have ha' := cutT_lt 124 a ha
  have hs := sat_0 9223372036854775808 9218868437227405312 52 (-1074) 32 false ((cutT 124 a) % 18446744073709551616)
  have HP : Ans 141 #[.int .i64 64, .int .i64 32, .bool false, .bool true, .int .u64 (cutT 124 a : Nat)] (.tuple #[.int .u64 ((Fl.truncW 9223372036854775808 9218868437227405312 52 (-1074) 32 false true ((cutT 124 a) % 18446744073709551616)).1 : Nat), .int .i64 ((0 : Nat) : Int)]) := fun W => by
    have := Fl.Trunc_64_32 false true (cutT 124 a) ha' W
    rw [hs] at this
    exact this
  have HR : Ans 211 #[.int .i64 64, .int .i64 32, .bool false, .bool true, .int .u64 (cutT 124 a : Nat)] (.tuple #[.int .u64 ((Fl.truncW 9223372036854775808 9218868437227405312 52 (-1074) 32 false true ((cutT 124 a) % 18446744073709551616)).1 : Nat), .int .i64 ((0 : Nat) : Int)]) := fun W => by
    have := Fl.RTrunc_64_32 false true (cutT 124 a) ha' W
    rw [hs] at this
    exact this
  refine good_of 64515 [124] 127 hrow a b (Fl.truncW 9223372036854775808 9218868437227405312 52 (-1074) 32 false true ((cutT 124 a) % 18446744073709551616)).1 0 ?_ ?_
  · show AnsG 50 #[.int .i64 64515, .int .u64 (((cutT 124 a) : Nat) : Int), .int .u64 ((0 : Nat) : Int)] _
    exact Ans.g (res_s32 64515 3 (by decide) (by decide) (by decide) (cutT 124 a) 0 _ _ (truncated_says 32 3 true (cutT 124 a) (by decide) (by decide) _ _ HP))
  · show Ans 91 #[.string (str ((nm7 64515).take 1)), .int .i64 ((64 : Nat) : Int), .int .i64 127, .string (str ((nm7 64515).drop 4)), .int .u64 (((cutT 124 a) : Nat) : Int), .int .u64 ((0 : Nat) : Int)] _
    exact worked_sat _ _ h0 hl px (beq_iff_eq.2 pt) _ _ _ _ _ _ (turned_sat _ hl (beq_iff_eq.2 p4) (beq_iff_eq.2 p9) false ps _ _ _ _ _ HR)
theorem held_64516_row : heldB 64516 125 126 true = true := by kernel_rfl
theorem held_64516 (a b : Nat) (ha : a < 18446744073709551616) (hb : b < 18446744073709551616) : Good 64516 a b := by
  have h := held_64516_row
  unfold heldB at h
  simp only [Bool.and_eq_true, decide_eq_true_eq, beq_iff_eq] at h
  obtain ⟨⟨⟨⟨⟨⟨⟨hrow, h0⟩, hl⟩, px⟩, pt⟩, p4⟩, p9⟩, ps⟩ := h
  have ha' := cutT_lt 125 a ha
  have hs := sat_0 2147483648 2139095040 23 (-149) 64 true ((cutT 125 a) % 4294967296)
  have HP : Ans 141 #[.int .i64 32, .int .i64 64, .bool true, .bool true, .int .u64 (cutT 125 a : Nat)] (.tuple #[.int .u64 ((Fl.truncW 2147483648 2139095040 23 (-149) 64 true true ((cutT 125 a) % 4294967296)).1 : Nat), .int .i64 ((0 : Nat) : Int)]) := fun W => by
    have := Fl.Trunc_32_64 true true (cutT 125 a) ha' W
    rw [hs] at this
    exact this
  have HR : Ans 211 #[.int .i64 32, .int .i64 64, .bool true, .bool true, .int .u64 (cutT 125 a : Nat)] (.tuple #[.int .u64 ((Fl.truncW 2147483648 2139095040 23 (-149) 64 true true ((cutT 125 a) % 4294967296)).1 : Nat), .int .i64 ((0 : Nat) : Int)]) := fun W => by
    have := Fl.RTrunc_32_64 true true (cutT 125 a) ha' W
    rw [hs] at this
    exact this
  refine good_of 64516 [125] 126 hrow a b (Fl.truncW 2147483648 2139095040 23 (-149) 64 true true ((cutT 125 a) % 4294967296)).1 0 ?_ ?_
  · show AnsG 50 #[.int .i64 64516, .int .u64 (((cutT 125 a) : Nat) : Int), .int .u64 ((0 : Nat) : Int)] _
    exact Ans.g (res_s64 64516 0 (by decide) (by decide) (by decide) (cutT 125 a) 0 _ _ (truncated_says 64 0 true (cutT 125 a) (by decide) (by decide) _ _ HP))
  · show Ans 91 #[.string (str ((nm7 64516).take 1)), .int .i64 ((32 : Nat) : Int), .int .i64 126, .string (str ((nm7 64516).drop 4)), .int .u64 (((cutT 125 a) : Nat) : Int), .int .u64 ((0 : Nat) : Int)] _
    exact worked_sat _ _ h0 hl px (beq_iff_eq.2 pt) _ _ _ _ _ _ (turned_sat _ hl (beq_iff_eq.2 p4) (beq_iff_eq.2 p9) true (beq_iff_eq.2 ps) _ _ _ _ _ HR)
theorem held_64517_row : heldB 64517 125 126 false = true := by kernel_rfl
theorem held_64517 (a b : Nat) (ha : a < 18446744073709551616) (hb : b < 18446744073709551616) : Good 64517 a b := by
  have h := held_64517_row
  unfold heldB at h
  simp only [Bool.and_eq_true, decide_eq_true_eq, beq_iff_eq] at h
  obtain ⟨⟨⟨⟨⟨⟨⟨hrow, h0⟩, hl⟩, px⟩, pt⟩, p4⟩, p9⟩, ps⟩ := h
  have ha' := cutT_lt 125 a ha
  have hs := sat_0 2147483648 2139095040 23 (-149) 64 false ((cutT 125 a) % 4294967296)
  have HP : Ans 141 #[.int .i64 32, .int .i64 64, .bool false, .bool true, .int .u64 (cutT 125 a : Nat)] (.tuple #[.int .u64 ((Fl.truncW 2147483648 2139095040 23 (-149) 64 false true ((cutT 125 a) % 4294967296)).1 : Nat), .int .i64 ((0 : Nat) : Int)]) := fun W => by
    have := Fl.Trunc_32_64 false true (cutT 125 a) ha' W
    rw [hs] at this
    exact this
  have HR : Ans 211 #[.int .i64 32, .int .i64 64, .bool false, .bool true, .int .u64 (cutT 125 a : Nat)] (.tuple #[.int .u64 ((Fl.truncW 2147483648 2139095040 23 (-149) 64 false true ((cutT 125 a) % 4294967296)).1 : Nat), .int .i64 ((0 : Nat) : Int)]) := fun W => by
    have := Fl.RTrunc_32_64 false true (cutT 125 a) ha' W
    rw [hs] at this
    exact this
  refine good_of 64517 [125] 126 hrow a b (Fl.truncW 2147483648 2139095040 23 (-149) 64 false true ((cutT 125 a) % 4294967296)).1 0 ?_ ?_
  · show AnsG 50 #[.int .i64 64517, .int .u64 (((cutT 125 a) : Nat) : Int), .int .u64 ((0 : Nat) : Int)] _
    exact Ans.g (res_s64 64517 1 (by decide) (by decide) (by decide) (cutT 125 a) 0 _ _ (truncated_says 64 1 true (cutT 125 a) (by decide) (by decide) _ _ HP))
  · show Ans 91 #[.string (str ((nm7 64517).take 1)), .int .i64 ((32 : Nat) : Int), .int .i64 126, .string (str ((nm7 64517).drop 4)), .int .u64 (((cutT 125 a) : Nat) : Int), .int .u64 ((0 : Nat) : Int)] _
    exact worked_sat _ _ h0 hl px (beq_iff_eq.2 pt) _ _ _ _ _ _ (turned_sat _ hl (beq_iff_eq.2 p4) (beq_iff_eq.2 p9) false ps _ _ _ _ _ HR)
theorem held_64518_row : heldB 64518 124 126 true = true := by kernel_rfl
theorem held_64518 (a b : Nat) (ha : a < 18446744073709551616) (hb : b < 18446744073709551616) : Good 64518 a b := by
  have h := held_64518_row
  unfold heldB at h
  simp only [Bool.and_eq_true, decide_eq_true_eq, beq_iff_eq] at h
  obtain ⟨⟨⟨⟨⟨⟨⟨hrow, h0⟩, hl⟩, px⟩, pt⟩, p4⟩, p9⟩, ps⟩ := h
  have ha' := cutT_lt 124 a ha
  have hs := sat_0 9223372036854775808 9218868437227405312 52 (-1074) 64 true ((cutT 124 a) % 18446744073709551616)
  have HP : Ans 141 #[.int .i64 64, .int .i64 64, .bool true, .bool true, .int .u64 (cutT 124 a : Nat)] (.tuple #[.int .u64 ((Fl.truncW 9223372036854775808 9218868437227405312 52 (-1074) 64 true true ((cutT 124 a) % 18446744073709551616)).1 : Nat), .int .i64 ((0 : Nat) : Int)]) := fun W => by
    have := Fl.Trunc_64_64 true true (cutT 124 a) ha' W
    rw [hs] at this
    exact this
  have HR : Ans 211 #[.int .i64 64, .int .i64 64, .bool true, .bool true, .int .u64 (cutT 124 a : Nat)] (.tuple #[.int .u64 ((Fl.truncW 9223372036854775808 9218868437227405312 52 (-1074) 64 true true ((cutT 124 a) % 18446744073709551616)).1 : Nat), .int .i64 ((0 : Nat) : Int)]) := fun W => by
    have := Fl.RTrunc_64_64 true true (cutT 124 a) ha' W
    rw [hs] at this
    exact this
  refine good_of 64518 [124] 126 hrow a b (Fl.truncW 9223372036854775808 9218868437227405312 52 (-1074) 64 true true ((cutT 124 a) % 18446744073709551616)).1 0 ?_ ?_
  · show AnsG 50 #[.int .i64 64518, .int .u64 (((cutT 124 a) : Nat) : Int), .int .u64 ((0 : Nat) : Int)] _
    exact Ans.g (res_s64 64518 2 (by decide) (by decide) (by decide) (cutT 124 a) 0 _ _ (truncated_says 64 2 true (cutT 124 a) (by decide) (by decide) _ _ HP))
  · show Ans 91 #[.string (str ((nm7 64518).take 1)), .int .i64 ((64 : Nat) : Int), .int .i64 126, .string (str ((nm7 64518).drop 4)), .int .u64 (((cutT 124 a) : Nat) : Int), .int .u64 ((0 : Nat) : Int)] _
    exact worked_sat _ _ h0 hl px (beq_iff_eq.2 pt) _ _ _ _ _ _ (turned_sat _ hl (beq_iff_eq.2 p4) (beq_iff_eq.2 p9) true (beq_iff_eq.2 ps) _ _ _ _ _ HR)
theorem held_64519_row : heldB 64519 124 126 false = true := by kernel_rfl
theorem held_64519 (a b : Nat) (ha : a < 18446744073709551616) (hb : b < 18446744073709551616) : Good 64519 a b := by
  have h := held_64519_row
  unfold heldB at h
  simp only [Bool.and_eq_true, decide_eq_true_eq, beq_iff_eq] at h
  obtain ⟨⟨⟨⟨⟨⟨⟨hrow, h0⟩, hl⟩, px⟩, pt⟩, p4⟩, p9⟩, ps⟩ := h
  have ha' := cutT_lt 124 a ha
  have hs := sat_0 9223372036854775808 9218868437227405312 52 (-1074) 64 false ((cutT 124 a) % 18446744073709551616)
  have HP : Ans 141 #[.int .i64 64, .int .i64 64, .bool false, .bool true, .int .u64 (cutT 124 a : Nat)] (.tuple #[.int .u64 ((Fl.truncW 9223372036854775808 9218868437227405312 52 (-1074) 64 false true ((cutT 124 a) % 18446744073709551616)).1 : Nat), .int .i64 ((0 : Nat) : Int)]) := fun W => by
    have := Fl.Trunc_64_64 false true (cutT 124 a) ha' W
    rw [hs] at this
    exact this
  have HR : Ans 211 #[.int .i64 64, .int .i64 64, .bool false, .bool true, .int .u64 (cutT 124 a : Nat)] (.tuple #[.int .u64 ((Fl.truncW 9223372036854775808 9218868437227405312 52 (-1074) 64 false true ((cutT 124 a) % 18446744073709551616)).1 : Nat), .int .i64 ((0 : Nat) : Int)]) := fun W => by
    have := Fl.RTrunc_64_64 false true (cutT 124 a) ha' W
    rw [hs] at this
    exact this
  refine good_of 64519 [124] 126 hrow a b (Fl.truncW 9223372036854775808 9218868437227405312 52 (-1074) 64 false true ((cutT 124 a) % 18446744073709551616)).1 0 ?_ ?_
  · show AnsG 50 #[.int .i64 64519, .int .u64 (((cutT 124 a) : Nat) : Int), .int .u64 ((0 : Nat) : Int)] _
    exact Ans.g (res_s64 64519 3 (by decide) (by decide) (by decide) (cutT 124 a) 0 _ _ (truncated_says 64 3 true (cutT 124 a) (by decide) (by decide) _ _ HP))
  · show Ans 91 #[.string (str ((nm7 64519).take 1)), .int .i64 ((64 : Nat) : Int), .int .i64 126, .string (str ((nm7 64519).drop 4)), .int .u64 (((cutT 124 a) : Nat) : Int), .int .u64 ((0 : Nat) : Int)] _
    exact worked_sat _ _ h0 hl px (beq_iff_eq.2 pt) _ _ _ _ _ _ (turned_sat _ hl (beq_iff_eq.2 p4) (beq_iff_eq.2 p9) false ps _ _ _ _ _ HR)
theorem held_good (op : Int) (h0 : 64512 ≤ op) (h1 : op ≤ 64519) (a b : Nat) (ha : a < 18446744073709551616) (hb : b < 18446744073709551616) : Good op a b := by
  rcases (show op = 64512 ∨ op = 64513 ∨ op = 64514 ∨ op = 64515 ∨ op = 64516 ∨ op = 64517 ∨ op = 64518 ∨ op = 64519 by omega) with rfl | rfl | rfl | rfl | rfl | rfl | rfl | rfl
  · exact held_64512 a b ha hb
  · exact held_64513 a b ha hb
  · exact held_64514 a b ha hb
  · exact held_64515 a b ha hb
  · exact held_64516 a b ha hb
  · exact held_64517 a b ha hb
  · exact held_64518 a b ha hb
  · exact held_64519 a b ha hb
set_option maxHeartbeats 4000000 in
theorem law_Held (a b : Nat) (ha : a < 18446744073709551616) (hb : b < 18446744073709551616) (w : World) (hg : GlobF w) : Calls Tryz.prog 18 #[.int .u64 a, .int .u64 b] w fun e w' => e = .returned (.bool true) ∧ Below w.heap.size w w' := by
  have HA := fun W h => hid (awake_says W h)
  have HS := fun W h => hid (some_says 64512 64519 (by decide) (by decide) (by decide) a b ha hb (fun op h0 h1 => held_good op h0 h1 a b ha hb) W h)
  have HG := hid hg
  clear hg ha hb
  go_enter Tryz.func18, Tryz.ntmps18
  go_wp2_with (first
    | (go_at_call 22; (with_reducible refine (HA _ HG.out).out.mono ?_); rintro e w1 ⟨rfl, hb1⟩; have HB1 := hid hb1; clear hb1)
    | (go_at_call 27; (with_reducible refine (HS _ (HG.out.next HB1.out)).out.mono ?_); rintro e w2 ⟨rfl, hb2⟩; have HB2 := hid (HB1.out.trans (hb2.mono HB1.out.size)); clear hb2))
  go_ret
  exact ⟨rfl, HB2.out⟩
end Go.Proofs.YtlhakbkdlgejpaaGreatDoor.Sc
