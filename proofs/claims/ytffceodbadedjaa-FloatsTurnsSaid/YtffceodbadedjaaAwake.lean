/-
  The document's examples, as every statement of this layer calls them first: the program answers true. No condition.
-/
import Derived.Test.YtffceodbadedjaaFBin64
import Derived.Test.YtffceodbadedjaaFUnA
import Derived.Test.YtffceodbadedjaaRows
import Derived.ProofKit
set_option linter.unusedSimpArgs false
set_option linter.unusedVariables false
namespace Go.Proofs.Ytffceodbadedjaa
open Go.RowKit

theorem wf_nat {a : Int} (h : (Lit.int .u64 a).wf = true) : ∃ n : Nat, a = (n : Int) ∧ n < 18446744073709551616 := by
  have hb : 0 ≤ a ∧ a < 18446744073709551616 := by
    simp [Lit.wf, IntKind.min, IntKind.max, IntKind.signed, IntKind.bits] at h; omega
  exact ⟨a.toNat, by omega, by omega⟩

theorem ex1 : binW Ieee.single 38 2147483648 2139095040 2143289344 23 (-149) 1 1065353216 1073741824 = 1077936128 := by decide +kernel
theorem ex2 : binW Ieee.double 9 9223372036854775808 9218868437227405312 9221120237041090560 52 (-1074) 4 4607182418800017408 4613937818241073152 = 4599676419421066581 := by decide +kernel
theorem ex3 : unW Ieee.single 2147483648 2139095040 2143289344 7 1075838976 = 1073741824 := by decide +kernel
theorem ex4 : relW 9223372036854775808 9218868437227405312 1 0 9223372036854775808 = true := by decide +kernel
theorem ex5 : Ieee.single.word true (rungR Ieee.single 3 (-1) false) = 3217031168 := by decide +kernel

set_option maxHeartbeats 1600000 in
theorem awake_any (w : World) : Calls Try.prog 16 #[] w fun e w' => e = .returned (.bool true) ∧ Below w.heap.size w w' := by
  have H1 : ∀ W, Hid (Calls Try.prog 17 #[.int .i64 32, .int .i64 1, .int .u64 1065353216, .int .u64 1073741824] W fun e w' => e = .returned (.tuple #[.int .u64 1077936128, .int .i64 0]) ∧ Below W.heap.size W w') := fun W => by
    have := Bin_32_1 1065353216 1073741824 (by decide) (by decide) W
    rw [show 1065353216 % 4294967296 = 1065353216 from rfl, show 1073741824 % 4294967296 = 1073741824 from rfl, ex1] at this
    exact this
  have H2 : ∀ W, Hid (Calls Try.prog 17 #[.int .i64 64, .int .i64 4, .int .u64 4607182418800017408, .int .u64 4613937818241073152] W fun e w' => e = .returned (.tuple #[.int .u64 4599676419421066581, .int .i64 0]) ∧ Below W.heap.size W w') := fun W => by
    have := Bin_64_4 4607182418800017408 4613937818241073152 (by decide) (by decide) W
    rw [show 4607182418800017408 % 18446744073709551616 = 4607182418800017408 from rfl, show 4613937818241073152 % 18446744073709551616 = 4613937818241073152 from rfl, ex2] at this
    exact this
  have H3 : ∀ W, Hid (Calls Try.prog 23 #[.int .i64 32, .int .i64 7, .int .u64 1075838976] W fun e w' => e = .returned (.tuple #[.int .u64 1073741824, .int .i64 0]) ∧ Below W.heap.size W w') := fun W => by
    have := Un_32_7 1075838976 (by decide) W
    rw [show 1075838976 % 4294967296 = 1075838976 from rfl, ex3] at this
    exact this
  have H4 : ∀ W, Hid (Calls Try.prog 25 #[.int .i64 64, .int .i64 1, .int .u64 0, .int .u64 9223372036854775808] W fun e w' => e = .returned (.tuple #[.bool true, .int .i64 0]) ∧ Below W.heap.size W w') := fun W => by
    have := Rel_64 1 (by decide) 0 9223372036854775808 (by decide) (by decide) W
    rw [show 0 % 18446744073709551616 = 0 from rfl, show 9223372036854775808 % 18446744073709551616 = 9223372036854775808 from rfl, ex4] at this
    exact this
  have H5 : ∀ W, Hid (Calls Try.prog 27 #[.int .i64 32, .bool true, .int .u64 3, .int .i64 (-1), .bool false] W fun e w' => e = .returned (.tuple #[.int .u64 3217031168, .int .i64 0]) ∧ Below W.heap.size W w') := fun W => by
    have := Round_32 true 3 (by decide) (-1) (by decide) (by decide) false W
    rw [if_neg (fun h => by cases h.1), ex5] at this
    exact this
  have H6 : ∀ W, Hid (Calls Try.prog 19 #[.int .i64 32, .int .u64 2139095040] W fun e w' => e = .returned (.int .i64 3) ∧ Below W.heap.size W w') := fun W => by
    have := Kind_32 2139095040 (by decide) W
    exact this
  have hB : Below w.heap.size w w := Below.refl _ _
  go_enter Try.func16, Try.ntmps16
  go_wp2_with (first
    | (go_at_call 17; ((with_reducible refine (H1 _).out.mono ?_); rintro e w1 ⟨rfl, hb⟩; replace hB := bnext hB hb; clear hb))
    | (go_at_call 17; ((with_reducible refine (H2 _).out.mono ?_); rintro e w1 ⟨rfl, hb⟩; replace hB := bnext hB hb; clear hb))
    | (go_at_call 23; ((with_reducible refine (H3 _).out.mono ?_); rintro e w1 ⟨rfl, hb⟩; replace hB := bnext hB hb; clear hb))
    | (go_at_call 25; ((with_reducible refine (H4 _).out.mono ?_); rintro e w1 ⟨rfl, hb⟩; replace hB := bnext hB hb; clear hb))
    | (go_at_call 27; ((with_reducible refine (H5 _).out.mono ?_); rintro e w1 ⟨rfl, hb⟩; replace hB := bnext hB hb; clear hb))
    | (go_at_call 19; ((with_reducible refine (H6 _).out.mono ?_); rintro e w1 ⟨rfl, hb⟩; replace hB := bnext hB hb; clear hb))
    | (go_at_call 21; ((with_reducible refine (Canonical_32 _).mono ?_); rintro e w1 ⟨rfl, hb⟩; replace hB := bnext hB hb; clear hb)))
  go_ret
  exact ⟨rfl, hB⟩

end Go.Proofs.Ytffceodbadedjaa
