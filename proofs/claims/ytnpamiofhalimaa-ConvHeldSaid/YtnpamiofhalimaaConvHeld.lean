/-
  For any two widths, with a sign or without, and any word: where the float is truncated without a trap it is held to the same integer; where it traps it is held at an end, or 0 for a NaN; wrong widths are refused in both ways. Condition: the widths are int64, the word is below 2^64.
-/
import Derived.Test.YtnpamiofhalimaaCAwake
import Derived.Test.YtnpamiofhalimaaRows
import Derived.WalkKit
import Derived.ProofKit
import Derived.OpenShut
set_option linter.unusedSimpArgs false
set_option linter.unusedVariables false
namespace Go.Proofs.Ytnpamiofhalimaa.convHeld
open Go.Proofs.Ytnpamiofhalimaa
open Go.ChangeShapes Go.WideShapes Go.ChangeAt Go.RowKit
open Go.ChangeMaps (open_string shut_string)
set_option linter.unusedVariables false

theorem own : ownKnob Try.prog.godebug = none := by kernel_rfl


/-- What the greatest or the least integer is as a word. -/
def heldv (n : Nat) (s neg : Bool) : Nat := (if neg then 2 ^ n - bnd n s neg else bnd n s neg) % 2 ^ n

theorem parted (SB INF P : Nat) (low : Int) (n : Nat) (s : Bool) (c : Nat) :
    (INF < c % SB ∧ truncW SB INF P low n s false c = (0, 43) ∧ truncW SB INF P low n s true c = (0, 0)) ∨
    (∃ x : Nat, truncW SB INF P low n s false c = (x, 0) ∧ truncW SB INF P low n s true c = (x, 0)) ∨
    (∃ neg : Bool, truncW SB INF P low n s false c = (0, 42) ∧ truncW SB INF P low n s true c = (heldv n s neg, 0)) := by
  by_cases h : INF < c % SB
  · exact .inl ⟨h, by unfold truncW; rw [if_pos h]; rfl, by unfold truncW; rw [if_pos h]; rfl⟩
  · have hv : ∀ sat, truncW SB INF P low n s sat c = truncM n s sat (decide (SB ≤ c)) (mag (wm SB INF P c) (we SB INF P low c)) := fun sat => by unfold truncW; rw [if_neg h]
    rw [hv, hv]
    generalize decide (SB ≤ c) = neg
    generalize mag (wm SB INF P c) (we SB INF P low c) = M
    by_cases hin : M ≤ bnd n s neg
    · exact .inr (.inl ⟨(if neg then 2 ^ n - M else M) % 2 ^ n, by unfold truncM; rw [if_pos hin], by unfold truncM; rw [if_pos hin]⟩)
    · exact .inr (.inr ⟨neg, by unfold truncM; rw [if_neg hin, if_neg (by decide)], by unfold truncM; rw [if_neg hin, if_pos rfl]; rfl⟩)

theorem walk_arg (F b : Int) (s : Bool) (a : Nat) (H1 : ∀ W, Hid (Say 10 #[.int .i64 F, .int .i64 b, .bool s, .bool false, .int .u64 a] W (.tuple #[.int .u64 0, .int .i64 1])))
    (H2 : ∀ W, Hid (Say 10 #[.int .i64 F, .int .i64 b, .bool s, .bool true, .int .u64 a] W (.tuple #[.int .u64 0, .int .i64 1]))) (w : World) :
    Say 6 #[.int .i64 F, .int .i64 b, .bool s, .int .u64 a] w (.bool true) := by
  have HA := fun W => hid (cawake_any W)
  have hB : Below w.heap.size w w := Below.refl _ _
  go_enter Try.func6, Try.ntmps6
  go_wp2_with (first
    | (go_at_call 9; ((with_reducible refine (HA _).out.mono ?_); rintro e w1 ⟨rfl, hb⟩; replace hB := bnext hB hb; clear hb))
    | (go_at_call 10; ((with_reducible refine (H1 _).out.mono ?_); rintro e w1 ⟨rfl, hb⟩; replace hB := bnext hB hb; clear hb))
    | (go_at_call 10; ((with_reducible refine (H2 _).out.mono ?_); rintro e w1 ⟨rfl, hb⟩; replace hB := bnext hB hb; clear hb)))
  go_ret
  exact ⟨rfl, hB⟩

theorem walk_fits (F b : Int) (s : Bool) (a x : Nat) (H1 : ∀ W, Hid (Say 10 #[.int .i64 F, .int .i64 b, .bool s, .bool false, .int .u64 a] W (.tuple #[.int .u64 (x : Int), .int .i64 0])))
    (H2 : ∀ W, Hid (Say 10 #[.int .i64 F, .int .i64 b, .bool s, .bool true, .int .u64 a] W (.tuple #[.int .u64 (x : Int), .int .i64 0]))) (w : World) :
    Say 6 #[.int .i64 F, .int .i64 b, .bool s, .int .u64 a] w (.bool true) := by
  have HA := fun W => hid (cawake_any W)
  have hB : Below w.heap.size w w := Below.refl _ _
  go_enter Try.func6, Try.ntmps6
  go_wp2_with (first
    | (go_at_call 9; ((with_reducible refine (HA _).out.mono ?_); rintro e w1 ⟨rfl, hb⟩; replace hB := bnext hB hb; clear hb))
    | (go_at_call 10; ((with_reducible refine (H1 _).out.mono ?_); rintro e w1 ⟨rfl, hb⟩; replace hB := bnext hB hb; clear hb))
    | (go_at_call 10; ((with_reducible refine (H2 _).out.mono ?_); rintro e w1 ⟨rfl, hb⟩; replace hB := bnext hB hb; clear hb)))
  go_ret
  exact ⟨rfl, hB⟩

theorem walk_nan (F b : Int) (s : Bool) (a : Nat) (H1 : ∀ W, Hid (Say 10 #[.int .i64 F, .int .i64 b, .bool s, .bool false, .int .u64 a] W (.tuple #[.int .u64 0, .int .i64 43])))
    (H2 : ∀ W, Hid (Say 10 #[.int .i64 F, .int .i64 b, .bool s, .bool true, .int .u64 a] W (.tuple #[.int .u64 0, .int .i64 0])))
    (HK : ∀ W, Hid (Say 20 #[.int .i64 F, .int .u64 a] W (.int .i64 4))) (w : World) :
    Say 6 #[.int .i64 F, .int .i64 b, .bool s, .int .u64 a] w (.bool true) := by
  have HA := fun W => hid (cawake_any W)
  have hB : Below w.heap.size w w := Below.refl _ _
  go_enter Try.func6, Try.ntmps6
  go_wp2_with (first
    | (go_at_call 9; ((with_reducible refine (HA _).out.mono ?_); rintro e w1 ⟨rfl, hb⟩; replace hB := bnext hB hb; clear hb))
    | (go_at_call 10; ((with_reducible refine (H1 _).out.mono ?_); rintro e w1 ⟨rfl, hb⟩; replace hB := bnext hB hb; clear hb))
    | (go_at_call 20; ((with_reducible refine (HK _).out.mono ?_); rintro e w1 ⟨rfl, hb⟩; replace hB := bnext hB hb; clear hb))
    | (go_at_call 10; ((with_reducible refine (H2 _).out.mono ?_); rintro e w1 ⟨rfl, hb⟩; replace hB := bnext hB hb; clear hb)))
  go_ret
  exact ⟨rfl, hB⟩

theorem walk_over_32_true_true (F : Int) (a : Nat) (H1 : ∀ W, Hid (Say 10 #[.int .i64 F, .int .i64 32, .bool true, .bool false, .int .u64 a] W (.tuple #[.int .u64 0, .int .i64 42])))
    (H2 : ∀ W, Hid (Say 10 #[.int .i64 F, .int .i64 32, .bool true, .bool true, .int .u64 a] W (.tuple #[.int .u64 2147483648, .int .i64 0]))) (w : World) :
    Say 6 #[.int .i64 F, .int .i64 32, .bool true, .int .u64 a] w (.bool true) := by
  have HA := fun W => hid (cawake_any W)
  have hB : Below w.heap.size w w := Below.refl _ _
  go_enter Try.func6, Try.ntmps6
  go_wp2_with (first
    | (go_at_call 9; ((with_reducible refine (HA _).out.mono ?_); rintro e w1 ⟨rfl, hb⟩; replace hB := bnext hB hb; clear hb))
    | (go_at_call 10; ((with_reducible refine (H1 _).out.mono ?_); rintro e w1 ⟨rfl, hb⟩; replace hB := bnext hB hb; clear hb))
    | (go_at_call 10; ((with_reducible refine (H2 _).out.mono ?_); rintro e w1 ⟨rfl, hb⟩; replace hB := bnext hB hb; clear hb)))
  go_ret
  exact ⟨rfl, hB⟩

theorem walk_over_32_true_false (F : Int) (a : Nat) (H1 : ∀ W, Hid (Say 10 #[.int .i64 F, .int .i64 32, .bool true, .bool false, .int .u64 a] W (.tuple #[.int .u64 0, .int .i64 42])))
    (H2 : ∀ W, Hid (Say 10 #[.int .i64 F, .int .i64 32, .bool true, .bool true, .int .u64 a] W (.tuple #[.int .u64 2147483647, .int .i64 0]))) (w : World) :
    Say 6 #[.int .i64 F, .int .i64 32, .bool true, .int .u64 a] w (.bool true) := by
  have HA := fun W => hid (cawake_any W)
  have hB : Below w.heap.size w w := Below.refl _ _
  go_enter Try.func6, Try.ntmps6
  go_wp2_with (first
    | (go_at_call 9; ((with_reducible refine (HA _).out.mono ?_); rintro e w1 ⟨rfl, hb⟩; replace hB := bnext hB hb; clear hb))
    | (go_at_call 10; ((with_reducible refine (H1 _).out.mono ?_); rintro e w1 ⟨rfl, hb⟩; replace hB := bnext hB hb; clear hb))
    | (go_at_call 10; ((with_reducible refine (H2 _).out.mono ?_); rintro e w1 ⟨rfl, hb⟩; replace hB := bnext hB hb; clear hb)))
  go_ret
  exact ⟨rfl, hB⟩

theorem walk_over_32_false_true (F : Int) (a : Nat) (H1 : ∀ W, Hid (Say 10 #[.int .i64 F, .int .i64 32, .bool false, .bool false, .int .u64 a] W (.tuple #[.int .u64 0, .int .i64 42])))
    (H2 : ∀ W, Hid (Say 10 #[.int .i64 F, .int .i64 32, .bool false, .bool true, .int .u64 a] W (.tuple #[.int .u64 0, .int .i64 0]))) (w : World) :
    Say 6 #[.int .i64 F, .int .i64 32, .bool false, .int .u64 a] w (.bool true) := by
  have HA := fun W => hid (cawake_any W)
  have hB : Below w.heap.size w w := Below.refl _ _
  go_enter Try.func6, Try.ntmps6
  go_wp2_with (first
    | (go_at_call 9; ((with_reducible refine (HA _).out.mono ?_); rintro e w1 ⟨rfl, hb⟩; replace hB := bnext hB hb; clear hb))
    | (go_at_call 10; ((with_reducible refine (H1 _).out.mono ?_); rintro e w1 ⟨rfl, hb⟩; replace hB := bnext hB hb; clear hb))
    | (go_at_call 10; ((with_reducible refine (H2 _).out.mono ?_); rintro e w1 ⟨rfl, hb⟩; replace hB := bnext hB hb; clear hb)))
  go_ret
  exact ⟨rfl, hB⟩

theorem walk_over_32_false_false (F : Int) (a : Nat) (H1 : ∀ W, Hid (Say 10 #[.int .i64 F, .int .i64 32, .bool false, .bool false, .int .u64 a] W (.tuple #[.int .u64 0, .int .i64 42])))
    (H2 : ∀ W, Hid (Say 10 #[.int .i64 F, .int .i64 32, .bool false, .bool true, .int .u64 a] W (.tuple #[.int .u64 4294967295, .int .i64 0]))) (w : World) :
    Say 6 #[.int .i64 F, .int .i64 32, .bool false, .int .u64 a] w (.bool true) := by
  have HA := fun W => hid (cawake_any W)
  have hB : Below w.heap.size w w := Below.refl _ _
  go_enter Try.func6, Try.ntmps6
  go_wp2_with (first
    | (go_at_call 9; ((with_reducible refine (HA _).out.mono ?_); rintro e w1 ⟨rfl, hb⟩; replace hB := bnext hB hb; clear hb))
    | (go_at_call 10; ((with_reducible refine (H1 _).out.mono ?_); rintro e w1 ⟨rfl, hb⟩; replace hB := bnext hB hb; clear hb))
    | (go_at_call 10; ((with_reducible refine (H2 _).out.mono ?_); rintro e w1 ⟨rfl, hb⟩; replace hB := bnext hB hb; clear hb)))
  go_ret
  exact ⟨rfl, hB⟩

theorem walk_over_64_true_true (F : Int) (a : Nat) (H1 : ∀ W, Hid (Say 10 #[.int .i64 F, .int .i64 64, .bool true, .bool false, .int .u64 a] W (.tuple #[.int .u64 0, .int .i64 42])))
    (H2 : ∀ W, Hid (Say 10 #[.int .i64 F, .int .i64 64, .bool true, .bool true, .int .u64 a] W (.tuple #[.int .u64 9223372036854775808, .int .i64 0]))) (w : World) :
    Say 6 #[.int .i64 F, .int .i64 64, .bool true, .int .u64 a] w (.bool true) := by
  have HA := fun W => hid (cawake_any W)
  have hB : Below w.heap.size w w := Below.refl _ _
  go_enter Try.func6, Try.ntmps6
  go_wp2_with (first
    | (go_at_call 9; ((with_reducible refine (HA _).out.mono ?_); rintro e w1 ⟨rfl, hb⟩; replace hB := bnext hB hb; clear hb))
    | (go_at_call 10; ((with_reducible refine (H1 _).out.mono ?_); rintro e w1 ⟨rfl, hb⟩; replace hB := bnext hB hb; clear hb))
    | (go_at_call 10; ((with_reducible refine (H2 _).out.mono ?_); rintro e w1 ⟨rfl, hb⟩; replace hB := bnext hB hb; clear hb)))
  go_ret
  exact ⟨rfl, hB⟩

theorem walk_over_64_true_false (F : Int) (a : Nat) (H1 : ∀ W, Hid (Say 10 #[.int .i64 F, .int .i64 64, .bool true, .bool false, .int .u64 a] W (.tuple #[.int .u64 0, .int .i64 42])))
    (H2 : ∀ W, Hid (Say 10 #[.int .i64 F, .int .i64 64, .bool true, .bool true, .int .u64 a] W (.tuple #[.int .u64 9223372036854775807, .int .i64 0]))) (w : World) :
    Say 6 #[.int .i64 F, .int .i64 64, .bool true, .int .u64 a] w (.bool true) := by
  have HA := fun W => hid (cawake_any W)
  have hB : Below w.heap.size w w := Below.refl _ _
  go_enter Try.func6, Try.ntmps6
  go_wp2_with (first
    | (go_at_call 9; ((with_reducible refine (HA _).out.mono ?_); rintro e w1 ⟨rfl, hb⟩; replace hB := bnext hB hb; clear hb))
    | (go_at_call 10; ((with_reducible refine (H1 _).out.mono ?_); rintro e w1 ⟨rfl, hb⟩; replace hB := bnext hB hb; clear hb))
    | (go_at_call 10; ((with_reducible refine (H2 _).out.mono ?_); rintro e w1 ⟨rfl, hb⟩; replace hB := bnext hB hb; clear hb)))
  go_ret
  exact ⟨rfl, hB⟩

theorem walk_over_64_false_true (F : Int) (a : Nat) (H1 : ∀ W, Hid (Say 10 #[.int .i64 F, .int .i64 64, .bool false, .bool false, .int .u64 a] W (.tuple #[.int .u64 0, .int .i64 42])))
    (H2 : ∀ W, Hid (Say 10 #[.int .i64 F, .int .i64 64, .bool false, .bool true, .int .u64 a] W (.tuple #[.int .u64 0, .int .i64 0]))) (w : World) :
    Say 6 #[.int .i64 F, .int .i64 64, .bool false, .int .u64 a] w (.bool true) := by
  have HA := fun W => hid (cawake_any W)
  have hB : Below w.heap.size w w := Below.refl _ _
  go_enter Try.func6, Try.ntmps6
  go_wp2_with (first
    | (go_at_call 9; ((with_reducible refine (HA _).out.mono ?_); rintro e w1 ⟨rfl, hb⟩; replace hB := bnext hB hb; clear hb))
    | (go_at_call 10; ((with_reducible refine (H1 _).out.mono ?_); rintro e w1 ⟨rfl, hb⟩; replace hB := bnext hB hb; clear hb))
    | (go_at_call 10; ((with_reducible refine (H2 _).out.mono ?_); rintro e w1 ⟨rfl, hb⟩; replace hB := bnext hB hb; clear hb)))
  go_ret
  exact ⟨rfl, hB⟩

theorem walk_over_64_false_false (F : Int) (a : Nat) (H1 : ∀ W, Hid (Say 10 #[.int .i64 F, .int .i64 64, .bool false, .bool false, .int .u64 a] W (.tuple #[.int .u64 0, .int .i64 42])))
    (H2 : ∀ W, Hid (Say 10 #[.int .i64 F, .int .i64 64, .bool false, .bool true, .int .u64 a] W (.tuple #[.int .u64 18446744073709551615, .int .i64 0]))) (w : World) :
    Say 6 #[.int .i64 F, .int .i64 64, .bool false, .int .u64 a] w (.bool true) := by
  have HA := fun W => hid (cawake_any W)
  have hB : Below w.heap.size w w := Below.refl _ _
  go_enter Try.func6, Try.ntmps6
  go_wp2_with (first
    | (go_at_call 9; ((with_reducible refine (HA _).out.mono ?_); rintro e w1 ⟨rfl, hb⟩; replace hB := bnext hB hb; clear hb))
    | (go_at_call 10; ((with_reducible refine (H1 _).out.mono ?_); rintro e w1 ⟨rfl, hb⟩; replace hB := bnext hB hb; clear hb))
    | (go_at_call 10; ((with_reducible refine (H2 _).out.mono ?_); rintro e w1 ⟨rfl, hb⟩; replace hB := bnext hB hb; clear hb)))
  go_ret
  exact ⟨rfl, hB⟩

theorem walk_32_32 (s : Bool) (a : Nat) (ha : a < 18446744073709551616) (w : World) : Say 6 #[.int .i64 32, .int .i64 32, .bool s, .int .u64 a] w (.bool true) := by
  have H1 := fun W => hid (Trunc_32_32 s false a ha W)
  have H2 := fun W => hid (Trunc_32_32 s true a ha W)
  rcases parted 2147483648 2139095040 23 (-149) 32 s (a % 4294967296) with ⟨h, h1, h2⟩ | ⟨x, h1, h2⟩ | ⟨neg, h1, h2⟩
  · rw [h1] at H1; rw [h2] at H2
    have HK := fun W => hid (Kind_32 a ha W)
    rw [kind_4 h] at HK
    exact walk_nan 32 32 s a H1 H2 HK w
  · rw [h1] at H1; rw [h2] at H2
    exact walk_fits 32 32 s a x H1 H2 w
  · rw [h1] at H1; rw [h2] at H2
    cases s <;> cases neg
    · rw [show heldv 32 false false = 4294967295 by decide +kernel] at H2; exact walk_over_32_false_false 32 a H1 H2 w
    · rw [show heldv 32 false true = 0 by decide +kernel] at H2; exact walk_over_32_false_true 32 a H1 H2 w
    · rw [show heldv 32 true false = 2147483647 by decide +kernel] at H2; exact walk_over_32_true_false 32 a H1 H2 w
    · rw [show heldv 32 true true = 2147483648 by decide +kernel] at H2; exact walk_over_32_true_true 32 a H1 H2 w

theorem walk_32_64 (s : Bool) (a : Nat) (ha : a < 18446744073709551616) (w : World) : Say 6 #[.int .i64 32, .int .i64 64, .bool s, .int .u64 a] w (.bool true) := by
  have H1 := fun W => hid (Trunc_32_64 s false a ha W)
  have H2 := fun W => hid (Trunc_32_64 s true a ha W)
  rcases parted 2147483648 2139095040 23 (-149) 64 s (a % 4294967296) with ⟨h, h1, h2⟩ | ⟨x, h1, h2⟩ | ⟨neg, h1, h2⟩
  · rw [h1] at H1; rw [h2] at H2
    have HK := fun W => hid (Kind_32 a ha W)
    rw [kind_4 h] at HK
    exact walk_nan 32 64 s a H1 H2 HK w
  · rw [h1] at H1; rw [h2] at H2
    exact walk_fits 32 64 s a x H1 H2 w
  · rw [h1] at H1; rw [h2] at H2
    cases s <;> cases neg
    · rw [show heldv 64 false false = 18446744073709551615 by decide +kernel] at H2; exact walk_over_64_false_false 32 a H1 H2 w
    · rw [show heldv 64 false true = 0 by decide +kernel] at H2; exact walk_over_64_false_true 32 a H1 H2 w
    · rw [show heldv 64 true false = 9223372036854775807 by decide +kernel] at H2; exact walk_over_64_true_false 32 a H1 H2 w
    · rw [show heldv 64 true true = 9223372036854775808 by decide +kernel] at H2; exact walk_over_64_true_true 32 a H1 H2 w

theorem walk_64_32 (s : Bool) (a : Nat) (ha : a < 18446744073709551616) (w : World) : Say 6 #[.int .i64 64, .int .i64 32, .bool s, .int .u64 a] w (.bool true) := by
  have H1 := fun W => hid (Trunc_64_32 s false a ha W)
  have H2 := fun W => hid (Trunc_64_32 s true a ha W)
  rcases parted 9223372036854775808 9218868437227405312 52 (-1074) 32 s (a % 18446744073709551616) with ⟨h, h1, h2⟩ | ⟨x, h1, h2⟩ | ⟨neg, h1, h2⟩
  · rw [h1] at H1; rw [h2] at H2
    have HK := fun W => hid (Kind_64 a ha W)
    rw [kind_4 h] at HK
    exact walk_nan 64 32 s a H1 H2 HK w
  · rw [h1] at H1; rw [h2] at H2
    exact walk_fits 64 32 s a x H1 H2 w
  · rw [h1] at H1; rw [h2] at H2
    cases s <;> cases neg
    · rw [show heldv 32 false false = 4294967295 by decide +kernel] at H2; exact walk_over_32_false_false 64 a H1 H2 w
    · rw [show heldv 32 false true = 0 by decide +kernel] at H2; exact walk_over_32_false_true 64 a H1 H2 w
    · rw [show heldv 32 true false = 2147483647 by decide +kernel] at H2; exact walk_over_32_true_false 64 a H1 H2 w
    · rw [show heldv 32 true true = 2147483648 by decide +kernel] at H2; exact walk_over_32_true_true 64 a H1 H2 w

theorem walk_64_64 (s : Bool) (a : Nat) (ha : a < 18446744073709551616) (w : World) : Say 6 #[.int .i64 64, .int .i64 64, .bool s, .int .u64 a] w (.bool true) := by
  have H1 := fun W => hid (Trunc_64_64 s false a ha W)
  have H2 := fun W => hid (Trunc_64_64 s true a ha W)
  rcases parted 9223372036854775808 9218868437227405312 52 (-1074) 64 s (a % 18446744073709551616) with ⟨h, h1, h2⟩ | ⟨x, h1, h2⟩ | ⟨neg, h1, h2⟩
  · rw [h1] at H1; rw [h2] at H2
    have HK := fun W => hid (Kind_64 a ha W)
    rw [kind_4 h] at HK
    exact walk_nan 64 64 s a H1 H2 HK w
  · rw [h1] at H1; rw [h2] at H2
    exact walk_fits 64 64 s a x H1 H2 w
  · rw [h1] at H1; rw [h2] at H2
    cases s <;> cases neg
    · rw [show heldv 64 false false = 18446744073709551615 by decide +kernel] at H2; exact walk_over_64_false_false 64 a H1 H2 w
    · rw [show heldv 64 false true = 0 by decide +kernel] at H2; exact walk_over_64_false_true 64 a H1 H2 w
    · rw [show heldv 64 true false = 9223372036854775807 by decide +kernel] at H2; exact walk_over_64_true_false 64 a H1 H2 w
    · rw [show heldv 64 true true = 9223372036854775808 by decide +kernel] at H2; exact walk_over_64_true_true 64 a H1 H2 w

theorem walk (a0 : Int) (a1 : Int) (a2 : Bool) (a3 : Int) (w0 : (Lit.int .i64 a0).wf = true) (w1 : (Lit.int .i64 a1).wf = true) (w3 : (Lit.int .u64 a3).wf = true) (w : World) :
    Calls Try.prog 6 #[.int .i64 a0, .int .i64 a1, .bool a2, .int .u64 a3] w fun e w' => e = .returned (.bool true) ∧ Below w.heap.size w w' := by
  obtain ⟨a, rfl, ha⟩ := wf_nat w3
  by_cases hb : (a0 ≠ 32 ∧ a0 ≠ 64) ∨ (a1 ≠ 32 ∧ a1 ≠ 64)
  · exact walk_arg a0 a1 a2 a (fun W => hid (Trunc_bad a0 a1 hb a2 false a ha W)) (fun W => hid (Trunc_bad a0 a1 hb a2 true a ha W)) w
  · have h0 : a0 = 32 ∨ a0 = 64 := by clear w0 w1 w3; omega
    have h1 : a1 = 32 ∨ a1 = 64 := by clear w0 w1 w3; omega
    rcases h0 with rfl | rfl <;> rcases h1 with rfl | rfl
    · exact walk_32_32 a2 a ha w
    · exact walk_32_64 a2 a ha w
    · exact walk_64_32 a2 a ha w
    · exact walk_64_64 a2 a ha w

/-! ### The row's step -/
set_option maxRecDepth 100000 in
theorem lifted (os : Os) (started : os.Started) (H : Type) (enc : TypeId × Value → H) :
    ReturnsInHanded {} Try.checked os 6 .any (Rows.convHeldSpec.pre6 enc Try.prog Try.f6 Rows.convHeldRow.domain false) (Rows.convHeldSpec.post enc Try.prog Try.f6 false true false false) := by
  refine returnsInHanded_of_change (C := Try.checked) own started (by kernel_rfl) Try.func6
    (ChangeSpec.witness6 (enc := enc) (C := Try.checked) false ⟨#[], #[.int .i64 0, .int .i64 0, .bool false, .int .u64 0], []⟩ 8 (by kernel_rfl) (by kernel_rfl) (by kernel_rfl) (by kernel_rfl)) ?_
  intro W base args ds gs before hval0 hW hcnd _
  have hval : ∀ (j : Nat) t v, Try.f6.params[j]? = some t → args[j]? = some v → Value.okWide Try.prog W .any base t v := hval0
  have hW' := hW
  obtain ⟨p, q, hA0, hV, rfl, hfz, hnd⟩ := hW
  have hA : DataW.TrodAll enc Try.prog W 0 (fun _ => true) true Try.f6.params.toList args.toList ds p := hA0
  rw [Try.params6] at hA hval
  obtain ⟨v0, vs0, d0, ds0, p0, q0, hargs, rfl, rfl, h0, r0⟩ := trodAll_cons hA
  obtain ⟨v1, vs1, d1, ds1, p1, q1, rfl, rfl, rfl, h1, r1⟩ := trodAll_cons r0
  obtain ⟨v2, vs2, d2, ds2, p2, q2, rfl, rfl, rfl, h2, r2⟩ := trodAll_cons r1
  obtain ⟨v3, vs3, d3, ds3, p3, q3, rfl, rfl, rfl, h3, r3⟩ := trodAll_cons r2
  obtain ⟨rfl, rfl, rfl⟩ := trodAll_nil r3
  obtain rfl : args = #[v0, v1, v2, v3] := by cases args; simp_all
  obtain ⟨rfl, rfl⟩ := trodVars_none hV
  obtain ⟨a0, rfl, rfl, rfl, w0⟩ := open_int Try.underlying3 (hval 0 3 v0 rfl rfl) h0
  obtain ⟨a1, rfl, rfl, rfl, w1⟩ := open_int Try.underlying3 (hval 1 3 v1 rfl rfl) h1
  obtain ⟨a2, rfl, rfl, rfl⟩ := open_bool Try.underlying4 (hval 2 4 v2 rfl rfl) h2
  obtain ⟨a3, rfl, rfl, rfl, w3⟩ := open_int Try.underlying22 (hval 3 22 v3 rfl rfl) h3
  clear hA0 hval0
  simp only [List.append_nil] at hW'
  refine (walk a0 a1 a2 a3 w0 w1 w3 W).mono fun e W' ⟨he, hg⟩ => ?_
  subst he
  exact ⟨_, rfl, _, _, _, [], [], [], hW', trodAll_mk1 (shut_bool Try.underlying4 _), (trodAll_cons_mk (shut_int Try.underlying3 w0) (trodAll_cons_mk (shut_int Try.underlying3 w1) (trodAll_cons_mk (shut_bool Try.underlying4 _) (trodAll_cons_mk (shut_int Try.underlying22 w3) trodAll_mk0)))), rfl, hg.frame _, fun h => by cases h⟩

theorem over : Rows.convHeldRow.holds Try.pinned (OpenSpec.ofChange Rows.convHeldSpec) :=
  OpenClaim.holds_of_wide 6 Try.f6 rfl rfl rfl rfl rfl rfl rfl ⟨rfl, rfl, rfl, rfl, rfl⟩ rfl rfl rfl rfl rfl (by kernel_rfl) Try.func6 (by kernel_rfl)
    (of_decide_eq_true (by kernel_rfl)) (by unfold Func.isWrapper; first | (rw [if_pos (by decide +kernel)]; kernel_rfl) | (rw [if_neg (by decide +kernel)]; exact ⟨rfl, rfl⟩))
    (fun os started H enc _ => lifted os started H enc)

/-- The statement. -/
theorem proved : Rows.ConvHeldSaid :=
  over
#print axioms proved
end Go.Proofs.Ytnpamiofhalimaa.convHeld
