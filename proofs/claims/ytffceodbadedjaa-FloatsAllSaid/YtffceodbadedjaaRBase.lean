/-
  What the reference says of a float's bits. Condition: the words are below 2^64.
-/
import Derived.Test.YtffceodbadedjaaRKind
import Derived.Test.YtffceodbadedjaaAddMath
set_option linter.unusedSimpArgs false
set_option linter.unusedVariables false
namespace Go.Proofs.Ytffceodbadedjaa
open Go.RowKit

theorem ext66 (v : Nat) (w : World) : (callFunc 66 #[.float .f64 v]).run Try.prog w = .ok (.value (.int .u64 (v : Int))) w := by
  have := run_callFunc_extern (P := Try.prog) (e := Extern.MathFloatBits.float64bits) Try.func66 (by kernel_rfl) (by kernel_rfl) (by kernel_rfl) (by kernel_rfl) #[.float .f64 v] w
  rw [this]; rfl
theorem ext68 (v : Nat) (w : World) : (callFunc 68 #[.float .f32 v]).run Try.prog w = .ok (.value (.int .u32 (v : Int))) w := by
  have := run_callFunc_extern (P := Try.prog) (e := Extern.MathFloatBits.float32bits) Try.func68 (by kernel_rfl) (by kernel_rfl) (by kernel_rfl) (by kernel_rfl) #[.float .f32 v] w
  rw [this]; rfl
theorem wrapu_nat {q : Nat} (h : q < 18446744073709551616) : IntKind.u64.wrap (q : Int) = (q : Int) := by
  rw [IntKind.wrap_u64]; omega

theorem BB_32 (v : Nat) (hv : v < 2 * 2147483648) (h : v % 2147483648 ≤ 2139095040) (w : World) : Calls Try.prog 44 #[.float .f32 v] w fun e w' => e = .returned (.int .u64 (v : Int)) ∧ w = w' := by
  have hx : ∀ W : World, (callFunc 68 #[.float .f32 v]).run Try.prog W = .ok (.value (.int .u32 (v : Int))) W := fun W => ext68 v W
  have ho : (FloatKind.f32.format.order v v != some .eq) = false := by
    have := order_word fmt_single hv hv h h
    rw [cmp_eq rfl] at this
    show (Ieee.single.order v v != some .eq) = false
    rw [this]; rfl
  have hw : IntKind.u64.wrap (v : Int) = (v : Int) := wrapu_nat (by omega)
  clear hv h
  go_enter Try.func44, Try.ntmps44
  go_wp2
  go_ret
  exact ⟨rfl, rfl⟩
theorem BB_64 (v : Nat) (hv : v < 2 * 9223372036854775808) (h : v % 9223372036854775808 ≤ 9218868437227405312) (w : World) : Calls Try.prog 41 #[.float .f64 v] w fun e w' => e = .returned (.int .u64 (v : Int)) ∧ w = w' := by
  have hx : ∀ W : World, (callFunc 66 #[.float .f64 v]).run Try.prog W = .ok (.value (.int .u64 (v : Int))) W := fun W => ext66 v W
  have ho : (FloatKind.f64.format.order v v != some .eq) = false := by
    have := order_word fmt_double hv hv h h
    rw [cmp_eq rfl] at this
    show (Ieee.double.order v v != some .eq) = false
    rw [this]; rfl
  clear hv h
  go_enter Try.func41, Try.ntmps41
  go_wp2
  go_ret
  exact ⟨rfl, rfl⟩

theorem BB_32_nan (v : Nat) (h : 2139095040 < v % 2147483648) (w : World) : Calls Try.prog 44 #[.float .f32 v] w fun e w' => e = .returned (.int .u64 2143289344) ∧ w = w' := by
  have ho : (FloatKind.f32.format.order v v != some .eq) = true := by
    have := order_nan fmt_single (a := v) (b := v) (.inl h)
    show (Ieee.single.order v v != some .eq) = true
    rw [this]; rfl
  clear h
  go_enter Try.func44, Try.ntmps44
  go_wp2_with (go_at_call 22; ((with_reducible refine (rcan_32 _).mono ?_); rintro e w1 ⟨rfl, rfl⟩))
  go_ret
  exact ⟨rfl, rfl⟩

theorem drawn_32 (t : Nat) : 2139095040 < ((t % 2) * 2 ^ (32 - 1) + 2139095040 + 1 + (t / 2) % (2 ^ 23 - 1)) % 2147483648 := by
  have h1 : (t / 2) % (2 ^ 23 - 1) < 2 ^ 23 - 1 := Nat.mod_lt _ (by decide)
  have h2 : t % 2 = 0 ∨ t % 2 = 1 := by omega
  have e1 : (2 : Nat) ^ (32 - 1) = 2147483648 := by decide
  have e2 : (2 : Nat) ^ 23 - 1 = 2147483648 - 2139095040 - 1 := by decide
  rw [e1]
  rw [e2] at h1 ⊢
  generalize (t / 2) % (2147483648 - 2139095040 - 1) = r at *
  rcases h2 with h2 | h2 <;> rw [h2] <;> omega

theorem BB_64_nan (v : Nat) (h : 9218868437227405312 < v % 9223372036854775808) (w : World) : Calls Try.prog 41 #[.float .f64 v] w fun e w' => e = .returned (.int .u64 9221120237041090560) ∧ w = w' := by
  have ho : (FloatKind.f64.format.order v v != some .eq) = true := by
    have := order_nan fmt_double (a := v) (b := v) (.inl h)
    show (Ieee.double.order v v != some .eq) = true
    rw [this]; rfl
  clear h
  go_enter Try.func41, Try.ntmps41
  go_wp2_with (go_at_call 22; ((with_reducible refine (rcan_64 _).mono ?_); rintro e w1 ⟨rfl, rfl⟩))
  go_ret
  exact ⟨rfl, rfl⟩

theorem drawn_64 (t : Nat) : 9218868437227405312 < ((t % 2) * 2 ^ (64 - 1) + 9218868437227405312 + 1 + (t / 2) % (2 ^ 52 - 1)) % 9223372036854775808 := by
  have h1 : (t / 2) % (2 ^ 52 - 1) < 2 ^ 52 - 1 := Nat.mod_lt _ (by decide)
  have h2 : t % 2 = 0 ∨ t % 2 = 1 := by omega
  have e1 : (2 : Nat) ^ (64 - 1) = 9223372036854775808 := by decide
  have e2 : (2 : Nat) ^ 52 - 1 = 9223372036854775808 - 9218868437227405312 - 1 := by decide
  rw [e1]
  rw [e2] at h1 ⊢
  generalize (t / 2) % (9223372036854775808 - 9218868437227405312 - 1) = r at *
  rcases h2 with h2 | h2 <;> rw [h2] <;> omega

end Go.Proofs.Ytffceodbadedjaa
