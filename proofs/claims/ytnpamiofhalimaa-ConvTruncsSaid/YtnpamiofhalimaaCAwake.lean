/-
  The law's own examples hold. No condition.
-/
import Derived.Test.YtnpamiofhalimaaCConv
import Derived.Test.YtnpamiofhalimaaRows
import Derived.ProofKit
set_option linter.unusedSimpArgs false
set_option linter.unusedVariables false
namespace Go.Proofs.Ytnpamiofhalimaa
open Go.RowKit

theorem wf_nat {a : Int} (h : (Lit.int .u64 a).wf = true) : ∃ n : Nat, a = (n : Int) ∧ n < 18446744073709551616 := by
  have hb : 0 ≤ a ∧ a < 18446744073709551616 := by
    simp [Lit.wf, IntKind.min, IntKind.max, IntKind.signed, IntKind.bits] at h; omega
  exact ⟨a.toNat, by omega, by omega⟩

theorem ex1 : truncW 2147483648 2139095040 23 (-149) 32 true false (3220386611 % 4294967296) = (4294967295, 0) := by decide +kernel
theorem ex2 : truncW 9223372036854775808 9218868437227405312 52 (-1074) 32 false false (4751297606875873280 % 18446744073709551616) = (0, 42) := by decide +kernel
theorem ex3 : truncW 9223372036854775808 9218868437227405312 52 (-1074) 32 false true (4751297606875873280 % 18446744073709551616) = (4294967295, 0) := by decide +kernel
theorem ex4 : Ieee.single.word (ineg 64 true 16777217) (rungR Ieee.single (isize 64 true 16777217) 0 false) = 1266679808 := by decide +kernel
theorem ex5 : resW Ieee.double 9221120237041090560 2147483648 2139095040 23 (-149) (1065353216 % 4294967296) = 4607182418800017408 := by decide +kernel
theorem ex6 : resW Ieee.single 2143289344 9223372036854775808 9218868437227405312 52 (-1074) (4607182418800017408 % 18446744073709551616) = 1065353216 := by decide +kernel

theorem cawake_any (w : World) : Say 9 #[] w (.bool true) := by
  have H1 : ∀ W, Hid (Say 10 #[.int .i64 32, .int .i64 32, .bool true, .bool false, .int .u64 3220386611] W (.tuple #[.int .u64 4294967295, .int .i64 0])) := fun W => by
    have := Trunc_32_32 true false 3220386611 (by decide) W
    rw [ex1] at this; exact this
  have H2 : ∀ W, Hid (Say 10 #[.int .i64 64, .int .i64 32, .bool false, .bool false, .int .u64 4751297606875873280] W (.tuple #[.int .u64 0, .int .i64 42])) := fun W => by
    have := Trunc_64_32 false false 4751297606875873280 (by decide) W
    rw [ex2] at this; exact this
  have H3 : ∀ W, Hid (Say 10 #[.int .i64 64, .int .i64 32, .bool false, .bool true, .int .u64 4751297606875873280] W (.tuple #[.int .u64 4294967295, .int .i64 0])) := fun W => by
    have := Trunc_64_32 false true 4751297606875873280 (by decide) W
    rw [ex3] at this; exact this
  have H4 : ∀ W, Hid (Say 12 #[.int .i64 64, .int .i64 32, .bool true, .int .u64 16777217] W (.tuple #[.int .u64 1266679808, .int .i64 0])) := fun W => by
    have := Convert_64_32 true 16777217 (by decide) W
    rw [ex4] at this; exact this
  have H5 : ∀ W, Hid (Say 14 #[.int .u64 1065353216] W (.int .u64 4607182418800017408)) := fun W => by
    have := Promote_any 1065353216 (by decide) W
    rw [ex5] at this; exact this
  have H6 : ∀ W, Hid (Say 16 #[.int .u64 4607182418800017408] W (.int .u64 1065353216)) := fun W => by
    have := Demote_any 4607182418800017408 (by decide) W
    rw [ex6] at this; exact this
  have hB : Below w.heap.size w w := Below.refl _ _
  go_enter Try.func9, Try.ntmps9
  go_wp2_with (first
    | (go_at_call 10; ((with_reducible refine (H1 _).out.mono ?_); rintro e w1 ⟨rfl, hb⟩; replace hB := bnext hB hb; clear hb))
    | (go_at_call 10; ((with_reducible refine (H2 _).out.mono ?_); rintro e w1 ⟨rfl, hb⟩; replace hB := bnext hB hb; clear hb))
    | (go_at_call 10; ((with_reducible refine (H3 _).out.mono ?_); rintro e w1 ⟨rfl, hb⟩; replace hB := bnext hB hb; clear hb))
    | (go_at_call 12; ((with_reducible refine (H4 _).out.mono ?_); rintro e w1 ⟨rfl, hb⟩; replace hB := bnext hB hb; clear hb))
    | (go_at_call 14; ((with_reducible refine (H5 _).out.mono ?_); rintro e w1 ⟨rfl, hb⟩; replace hB := bnext hB hb; clear hb))
    | (go_at_call 16; ((with_reducible refine (H6 _).out.mono ?_); rintro e w1 ⟨rfl, hb⟩; replace hB := bnext hB hb; clear hb)))
  go_ret
  exact ⟨rfl, hB⟩

end Go.Proofs.Ytnpamiofhalimaa
