/-
  The contracts of the reference's small functions: F32, F64, value, cut, sign, Canonical, Kind. Condition: the words are below 2^64.
-/
import Derived.Test.YtffceodbadedjaaVal
import Derived.Test.YtffceodbadedjaaRSign
import Derived.Laws.FloatArith
import Derived.Laws.Externs
import Derived.Laws.NewFold
set_option linter.unusedSimpArgs false
set_option linter.unusedVariables false
namespace Go.Proofs.Ytffceodbadedjaa
open Go.RowKit

theorem ext67 (n : Int) (w : World) : (callFunc 67 #[.int .u32 n]).run Try.prog w = .ok (.value (.float .f32 n.toNat)) w := by
  have := run_callFunc_extern (P := Try.prog) (e := Extern.MathFloatBits.float32frombits) Try.func67 (by kernel_rfl) (by kernel_rfl) (by kernel_rfl) (by kernel_rfl) #[.int .u32 n] w
  rw [this]; rfl

theorem ext79 (n : Int) (w : World) : (callFunc 79 #[.int .u64 n]).run Try.prog w = .ok (.value (.float .f64 n.toNat)) w := by
  have := run_callFunc_extern (P := Try.prog) (e := Extern.MathFloatBits.float64frombits) Try.func79 (by kernel_rfl) (by kernel_rfl) (by kernel_rfl) (by kernel_rfl) #[.int .u64 n] w
  rw [this]; rfl

theorem F32_any (a : Nat) (w : World) : Calls Try.prog 43 #[.int .u64 a] w fun e w' => e = .returned (.float .f32 (a % 4294967296)) ∧ w = w' := by
  obtain ⟨c, hc⟩ : ∃ c : Nat, c = a % 4294967296 := ⟨_, rfl⟩
  have hw : IntKind.u32.wrap (a : Int) = (c : Int) := by
    have : IntKind.u32.wrap (a : Int) = (a : Int) % 4294967296 := by simp [IntKind.wrap, IntKind.bits, IntKind.signed]
    rw [this]; omega
  have hx : ∀ W : World, (callFunc 67 #[.int .u32 (c : Int)]).run Try.prog W = .ok (.value (.float .f32 c)) W := fun W => ext67 c W
  rw [← hc]
  clear hc
  go_enter Try.func43, Try.ntmps43
  go_wp2
  go_ret
  exact ⟨rfl, rfl⟩

theorem F64_any (a : Nat) (w : World) : Calls Try.prog 65 #[.int .u64 a] w fun e w' => e = .returned (.float .f64 a) ∧ w = w' := by
  have hx : ∀ W : World, (callFunc 79 #[.int .u64 (a : Int)]).run Try.prog W = .ok (.value (.float .f64 a)) W := fun W => ext79 a W
  go_enter Try.func65, Try.ntmps65
  go_wp2
  go_ret
  exact ⟨rfl, rfl⟩

/-- A float of 32 bits that is no NaN, as one of 64. -/
theorem conv_ok (c : Nat) (hc : c < 2 * 2147483648) (h : c % 2147483648 ≤ 2139095040) (w : World) : (convert 52 48 (.float .f32 c)).run Try.prog w = .ok (.float .f64 (vS c)) w := by
  refine run_convert_float_float w 52 48 .f32 .f64 c (vS c) (by kernel_rfl) (by kernel_rfl) ?_
  unfold floatToFloatBits
  rw [if_neg (by decide)]
  show (match Ieee.single.read c with | .nan _ _ => none | .infinity s => some (Ieee.double.write (.infinity s)) | .number s m e => if (Ieee.double.read (Ieee.double.write (.number s m e))).isInfinity then none else some (Ieee.double.write (.number s m e))) = some (vS c)
  rcases (vS_read hc h).1 with ⟨x1, x2, x3⟩ | ⟨x1, x2, x3⟩
  · have hv : vS c = Ieee.double.write (.number (decide (2147483648 ≤ c)) (pm 23 (c % 2147483648)) (pe 23 (-149) (c % 2147483648))) := by unfold vS; rw [x3]
    rw [x3]
    simp only []
    rw [← hv, x2]
    have : (wideD (decide (2147483648 ≤ c)) (pm 23 (c % 2147483648)) (pe 23 (-149) (c % 2147483648))).isInfinity = false := by unfold wideD; split <;> rfl
    rw [this]; rfl
  · have hv : vS c = Ieee.double.write (.infinity (decide (2147483648 ≤ c))) := by unfold vS; rw [x3]
    rw [x3, hv]

/-- A NaN of 32 bits as one of 64: its bits are open, but it is one. -/
theorem conv_nan (c : Nat) (h : 2139095040 < c % 2147483648) (w : World) : ∃ v : Nat, (convert 52 48 (.float .f32 c)).run Try.prog w = .ok (.float .f64 v) w.drew ∧ 9218868437227405312 < v % 9223372036854775808 := by
  obtain ⟨s, t, hr⟩ := read_nan (f := Ieee.single) (a := c) (SB := 2147483648) rfl (by decide) h
  have hd : FloatKind.f32.decode c = .nan s t := hr
  have hu : Try.prog.underlying 48 = some (.float .f64) := by kernel_rfl
  have hs : Try.prog.underlying 52 = some (.float .f32) := by kernel_rfl
  refine ⟨Question.cut (.nanConv .f64 c) (w.tape w.drawn (.nanConv .f64 c)), ?_, ?_⟩
  · simp [convert, run_underlying hs, run_underlying hu, Conv.floatToFloat, hd, run_choose_drew, Question.forced]
  · generalize w.tape w.drawn (.nanConv .f64 c) = t
    show 9218868437227405312 < ((t % 2) * 2 ^ 63 + 0x7ff0000000000000 + 1 + (t / 2) % (2 ^ 52 - 1)) % 9223372036854775808
    have h1 : (t / 2) % (2 ^ 52 - 1) < 4503599627370495 := Nat.mod_lt _ (by decide)
    have h2 : t % 2 = 0 ∨ t % 2 = 1 := by omega
    generalize (t / 2) % (2 ^ 52 - 1) = r at *
    rcases h2 with h2 | h2 <;> rw [h2] <;> omega

/-- A value for a word. -/
def VPost (SB INF a : Nat) (w : World) (e : Ending) (w' : World) : Prop := ∃ v : Nat, e = .returned (.float .f64 v) ∧ ValOf SB INF a v ∧ Below w.heap.size w w'

theorem value_32 (a : Nat) (w : World) : Calls Try.prog 39 #[.int .i64 32, .int .u64 a] w (VPost 2147483648 2139095040 (a % 4294967296) w) := by
  have HF := fun w => hid (F32_any a w)
  have hlt : a % 4294967296 < 2 * 2147483648 := by omega
  generalize a % 4294967296 = c at *
  by_cases h : 2139095040 < c % 2147483648
  · obtain ⟨v, hx, hv⟩ := conv_nan c h w
    have HV := hid (And.intro h hv)
    clear h hv hlt
    go_enter Try.func39, Try.ntmps39
    go_wp2_with (go_at_call 43; ((with_reducible refine (HF _).out.mono ?_); rintro e w1 ⟨rfl, rfl⟩))
    go_ret
    exact ⟨v, rfl, .inl HV.out, (Below.refl _ _).drew⟩
  · have hx : ∀ W : World, (convert 52 48 (.float .f32 c)).run Try.prog W = .ok (.float .f64 (vS c)) W := fun W => conv_ok c hlt (by omega) W
    have hr := vS_read hlt (by omega)
    have HV : Hid (ValOf 2147483648 2139095040 c (vS c)) := hid (.inr ⟨by omega, hr.2.2, .inl ⟨rfl, rfl, rfl⟩⟩)
    generalize vS c = v at *
    clear h hr hlt
    go_enter Try.func39, Try.ntmps39
    go_wp2_with (go_at_call 43; ((with_reducible refine (HF _).out.mono ?_); rintro e w1 ⟨rfl, rfl⟩))
    go_ret
    exact ⟨v, rfl, HV.out, Below.refl _ _⟩

theorem value_64 (a : Nat) (ha : a < 18446744073709551616) (w : World) : Calls Try.prog 39 #[.int .i64 64, .int .u64 a] w (VPost 9223372036854775808 9218868437227405312 a w) := by
  have HV : Hid (ValOf 9223372036854775808 9218868437227405312 a a) := hid (by
    by_cases h : 9218868437227405312 < a % 9223372036854775808
    · exact .inl ⟨h, h⟩
    · exact .inr ⟨by omega, by omega, .inr ⟨rfl, rfl, rfl⟩⟩)
  go_enter Try.func39, Try.ntmps39
  go_wp2_with (go_at_call 65; ((with_reducible refine (F64_any _ _).mono ?_); rintro e w1 ⟨rfl, rfl⟩))
  go_ret
  exact ⟨a, rfl, HV.out, Below.refl _ _⟩

theorem rcut_32 (a : Nat) (w : World) : Calls Try.prog 38 #[.int .i64 32, .int .u64 a] w fun e w' => e = .returned (.int .u64 ((a % 4294967296 : Nat) : Int)) ∧ w = w' := by
  obtain ⟨c, hc⟩ : ∃ c : Nat, c = a % 4294967296 := ⟨_, rfl⟩
  have hw : (a : Int) % 4294967296 = (c : Int) := by omega
  rw [← hc]
  clear hc
  go_enter Try.func38, Try.ntmps38
  go_wp2
  go_ret
  exact ⟨congrArg (fun x => Ending.returned (.int .u64 x)) hw, rfl⟩

theorem rcut_64 (a : Nat) (ha : a < 18446744073709551616) (w : World) : Calls Try.prog 38 #[.int .i64 64, .int .u64 a] w fun e w' => e = .returned (.int .u64 ((a % 18446744073709551616 : Nat) : Int)) ∧ w = w' := by
  rw [Nat.mod_eq_of_lt ha]
  go_enter Try.func38, Try.ntmps38
  go_wp2
  go_ret
  exact ⟨rfl, rfl⟩

theorem rcan_32 (w : World) : Calls Try.prog 22 #[.int .i64 32] w fun e w' => e = .returned (.int .u64 2143289344) ∧ w = w' := by
  go_enter Try.func22, Try.ntmps22
  go_wp2
  go_ret
  exact ⟨rfl, rfl⟩

theorem rcan_64 (w : World) : Calls Try.prog 22 #[.int .i64 64] w fun e w' => e = .returned (.int .u64 9221120237041090560) ∧ w = w' := by
  go_enter Try.func22, Try.ntmps22
  go_wp2
  go_ret
  exact ⟨rfl, rfl⟩

theorem rcan_no (b : Int) (h1 : b ≠ 32) (h2 : b ≠ 64) (w : World) : Calls Try.prog 22 #[.int .i64 b] w fun e w' => e = .returned (.int .u64 0) ∧ w = w' := by
  have e1 : (b == 32) = false := by simpa using h1
  have e2 : (b == 64) = false := by simpa using h2
  clear h1 h2
  go_enter Try.func22, Try.ntmps22
  go_wp2
  go_ret
  exact ⟨rfl, rfl⟩

end Go.Proofs.Ytffceodbadedjaa
