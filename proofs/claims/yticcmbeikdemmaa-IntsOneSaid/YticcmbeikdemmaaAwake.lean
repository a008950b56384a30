/-
  The document's examples, as every statement of this layer calls them first: the program answers true. No condition.
-/
import Derived.Test.YticcmbeikdemmaaBinAny
import Derived.Test.YticcmbeikdemmaaUn
import Derived.Test.YticcmbeikdemmaaRel
import Derived.Test.YticcmbeikdemmaaRows
import Derived.ProofKit
import Derived.Below
namespace Go.Proofs.Yticcmbeikdemmaa
open Go.RowKit

theorem wf_nat {a : Int} (h : (Lit.int .u64 a).wf = true) : ∃ n : Nat, a = (n : Int) ∧ n < 18446744073709551616 := by
  have hb : 0 ≤ a ∧ a < 18446744073709551616 := by
    simp [Lit.wf, IntKind.min, IntKind.max, IntKind.signed, IntKind.bits] at h; omega
  exact ⟨a.toNat, by omega, by omega⟩

theorem ex1 : binA 32 4 4294967289 2 = (4294967293, 0) := by decide +kernel
theorem ex2 : binA 8 16 127 1 = (127, 0) := by decide +kernel
theorem ex3 : unA 8 1 1 = (7, 0) := by decide +kernel
theorem ex4 : relA 16 3 65535 0 = (true, 0) := by decide +kernel
theorem ex5 : binA 64 5 1 0 = (0, 41) := by decide +kernel

theorem Signed_any (bits : Int) (a : Nat) (ha : a < 18446744073709551616) (w : World) :
    Calls Try.prog 22 #[.int .i64 bits, .int .u64 a] w fun e w' => e = .returned (.int .i64 (if Okn bits.toNat then sg bits.toNat (a % 2 ^ bits.toNat) else 0)) ∧ w = w' := by
  by_cases hbits : Okn bits.toNat
  · obtain ⟨n, rfl⟩ : ∃ n : Nat, bits = (n : Int) := ⟨bits.toNat, by have := hbits.le; omega⟩
    rw [if_pos hbits]
    rw [Int.toNat_natCast] at hbits ⊢
    exact Signed_ok n hbits a ha w
  · rw [if_neg hbits]
    exact Signed_bad bits (by unfold Bad; unfold Okn at hbits; omega) a w

set_option maxHeartbeats 800000 in
theorem awake_any (w : World) : Calls Try.prog 15 #[] w fun e w' => e = .returned (.bool true) ∧ w = w' := by
  have H1 : Hid (Calls Try.prog 16 #[.int .i64 32, .int .i64 4, .int .u64 4294967289, .int .u64 2] w fun e w' => e = .returned (.tuple #[.int .u64 4294967293, .int .i64 0]) ∧ w = w') := by
    have := Bin_any 32 4 4294967289 2 (by decide) (by decide) w
    rw [ex1] at this
    exact this
  have H2 : Hid (Calls Try.prog 16 #[.int .i64 8, .int .i64 16, .int .u64 127, .int .u64 1] w fun e w' => e = .returned (.tuple #[.int .u64 127, .int .i64 0]) ∧ w = w') := by
    have := Bin_any 8 16 127 1 (by decide) (by decide) w
    rw [ex2] at this
    exact this
  have H3 : Hid (Calls Try.prog 20 #[.int .i64 8, .int .i64 1, .int .u64 1] w fun e w' => e = .returned (.tuple #[.int .u64 7, .int .i64 0]) ∧ w = w') := by
    have := Un_any 8 1 1 (by decide) w
    rw [ex3] at this
    exact this
  have H4 : Hid (Calls Try.prog 18 #[.int .i64 16, .int .i64 3, .int .u64 65535, .int .u64 0] w fun e w' => e = .returned (.tuple #[.bool true, .int .i64 0]) ∧ w = w') := by
    have := Rel_any 16 3 65535 0 (by decide) (by decide) w
    rw [ex4] at this
    exact this
  have H5 : Hid (Calls Try.prog 16 #[.int .i64 64, .int .i64 5, .int .u64 1, .int .u64 0] w fun e w' => e = .returned (.tuple #[.int .u64 0, .int .i64 41]) ∧ w = w') := by
    have := Bin_any 64 5 1 0 (by decide) (by decide) w
    rw [ex5] at this
    exact this
  have H6 : Hid (Calls Try.prog 22 #[.int .i64 8, .int .u64 255] w fun e w' => e = .returned (.int .i64 (-1)) ∧ w = w') := by
    have := Signed_any 8 255 (by decide) w
    exact this
  go_enter Try.func15, Try.ntmps15
  go_wp2_with (first
    | (go_at_call 16; ((with_reducible refine H1.out.mono ?_); rintro e w' ⟨rfl, rfl⟩))
    | (go_at_call 16; ((with_reducible refine H2.out.mono ?_); rintro e w' ⟨rfl, rfl⟩))
    | (go_at_call 16; ((with_reducible refine H5.out.mono ?_); rintro e w' ⟨rfl, rfl⟩))
    | (go_at_call 20; ((with_reducible refine H3.out.mono ?_); rintro e w' ⟨rfl, rfl⟩))
    | (go_at_call 18; ((with_reducible refine H4.out.mono ?_); rintro e w' ⟨rfl, rfl⟩))
    | (go_at_call 22; ((with_reducible refine H6.out.mono ?_); rintro e w' ⟨rfl, rfl⟩)))
  go_ret
  exact ⟨rfl, rfl⟩

end Go.Proofs.Yticcmbeikdemmaa
