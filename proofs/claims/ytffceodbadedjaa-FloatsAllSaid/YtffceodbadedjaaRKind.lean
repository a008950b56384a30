/-
  The contracts of the reference's Kind and Parts. Condition: the words are below 2^64.
-/
import Derived.Test.YtffceodbadedjaaRVal
set_option linter.unusedSimpArgs false
set_option linter.unusedVariables false
namespace Go.Proofs.Ytffceodbadedjaa
open Go.RowKit

theorem rkind_cases {INF s : Nat} : kindOf INF s = 4 ∨ kindOf INF s = 3 ∨ kindOf INF s = 1 ∨ kindOf INF s = 2 := by
  unfold kindOf; split
  · simp
  · split
    · simp
    · split <;> simp

theorem val_zero {SB INF : Nat} (h : SB = 2147483648 ∧ INF = 2139095040 ∨ SB = 9223372036854775808 ∧ INF = 9218868437227405312) : ValOf SB INF 0 0 := by
  rcases h with ⟨rfl, rfl⟩ | ⟨rfl, rfl⟩
  · exact .inr ⟨by decide, by decide, .inl ⟨rfl, rfl, by decide +kernel⟩⟩
  · exact .inr ⟨by decide, by decide, .inr ⟨rfl, rfl, rfl⟩⟩

theorem val_sub_fin {SB INF c v : Nat} (h : SB = 2147483648 ∧ INF = 2139095040 ∨ SB = 9223372036854775808 ∧ INF = 9218868437227405312) (hc : c < 2 * SB) (hv : ValOf SB INF c v) (hf : c % SB < INF) : Ieee.double.sub v v = some 0 := by
  have hnum : ∃ s m e, Ieee.double.read v = .number s m e := by
    rcases hv with ⟨h1, _⟩ | ⟨h1, h2, h3⟩
    · omega
    · rcases h3 with ⟨rfl, rfl, rfl⟩ | ⟨rfl, rfl, rfl⟩
      · rcases (vS_read hc h1).1 with ⟨x1, x2, x3⟩ | ⟨x1, x2, x3⟩
        · rw [x2]; unfold wideD; split <;> exact ⟨_, _, _, rfl⟩
        · omega
      · exact ⟨_, _, _, read_fin fmt_double.sb fmt_double.fr fmt_double.lp hc hf⟩
  obtain ⟨s, m, e, hr⟩ := hnum
  unfold Ieee.Format.sub
  rw [hr]
  have h0 : Ieee.signed s m (e - e).toNat + Ieee.signed (!s) m (e - e).toNat = 0 := by
    unfold Ieee.signed; cases s <;> simp <;> omega
  simp only [Ieee.Datum.opposite, Ieee.Datum.sum, Int.min_self, h0, if_true, Option.map_some, Ieee.Format.write]
  cases s <;> rfl

theorem val_sub_inf {SB INF c v : Nat} (h : SB = 2147483648 ∧ INF = 2139095040 ∨ SB = 9223372036854775808 ∧ INF = 9218868437227405312) (hc : c < 2 * SB) (hv : ValOf SB INF c v) (hf : c % SB = INF) : Ieee.double.sub v v = none := by
  have hinf : ∃ s, Ieee.double.read v = .infinity s := by
    rcases hv with ⟨h1, _⟩ | ⟨h1, h2, h3⟩
    · omega
    · rcases h3 with ⟨rfl, rfl, rfl⟩ | ⟨rfl, rfl, rfl⟩
      · rcases (vS_read hc h1).1 with ⟨x1, x2, x3⟩ | ⟨x1, x2, x3⟩
        · omega
        · exact ⟨_, x2⟩
      · exact ⟨_, read_inf fmt_double.sb hc fmt_double.bi hf⟩
  obtain ⟨s, hr⟩ := hinf
  unfold Ieee.Format.sub
  rw [hr]
  cases s <;> rfl

/-- An operation that has no answer: a NaN, whose bits are open. -/
theorem sub_nan (v : Nat) (h : Ieee.double.sub v v = none) (w : World) : ∃ N : Nat, (binOp .sub 48 (.float .f64 v) (.float .f64 v)).run Try.prog w = .ok (.float .f64 N) w.drew ∧ 9218868437227405312 < N % 9223372036854775808 := by
  refine ⟨Question.cut (.nanBits .f64 v v) (w.tape w.drawn (.nanBits .f64 v v)), ?_, ?_⟩
  · have h' : FloatKind.f64.format.sub v v = none := h
    simp [binOp, Op.floatArith, h', run_choose_drew, Question.forced]
  · generalize w.tape w.drawn (.nanBits .f64 v v) = t
    show 9218868437227405312 < ((t % 2) * 2 ^ 63 + 0x7ff0000000000000 + 1 + (t / 2) % (2 ^ 52 - 1)) % 9223372036854775808
    have h1 : (t / 2) % (2 ^ 52 - 1) < 4503599627370495 := Nat.mod_lt _ (by decide)
    have h2 : t % 2 = 0 ∨ t % 2 = 1 := by omega
    generalize (t / 2) % (2 ^ 52 - 1) = r at *
    rcases h2 with h2 | h2 <;> rw [h2] <;> omega

theorem val_eq0 {SB INF c v : Nat} (h : SB = 2147483648 ∧ INF = 2139095040 ∨ SB = 9223372036854775808 ∧ INF = 9218868437227405312) (hc : c < 2 * SB) (hv : ValOf SB INF c v) :
    (Ieee.double.order v 0 == some .eq) = decide (c % SB = 0) := by
  have hp : 0 < SB := by omega
  rw [order_val hc (by omega) hv (val_zero h)]
  by_cases hn : INF < c % SB ∨ INF < 0 % SB
  · rw [if_pos hn]
    have : ¬ c % SB = 0 := by rw [Nat.zero_mod] at hn; omega
    simp [this]
  · rw [if_neg hn]
    have hz : rankOf SB 0 = 0 := by unfold rankOf; rw [if_neg (by omega), Nat.zero_mod]; rfl
    rw [hz]
    by_cases h0 : c % SB = 0
    · have : rankOf SB c = 0 := by unfold rankOf; rw [h0]; split <;> rfl
      rw [this, cmp_eq rfl]; simp [h0]
    · have hne : rankOf SB c < 0 ∨ 0 < rankOf SB c := by unfold rankOf; split <;> omega
      rcases hne with h1 | h1
      · rw [cmp_lt h1]; simp [h0]
      · rw [cmp_gt h1]; simp [h0]

theorem val_ne {SB INF c v : Nat} (hc : c < 2 * SB) (hv : ValOf SB INF c v) : (Ieee.double.order v v != some .eq) = decide (INF < c % SB) := by
  rw [order_val hc hc hv hv]
  by_cases h : INF < c % SB
  · rw [if_pos (.inl h)]; simp [h]
  · rw [if_neg (by omega), cmp_eq rfl]; simp [h]

theorem RKind_no (b : Int) (h1 : b ≠ 32) (h2 : b ≠ 64) (a : Nat) (w : World) : Calls Try.prog 20 #[.int .i64 b, .int .u64 a] w fun e w' => e = .returned (.int .i64 0) ∧ w = w' := by
  have e1 : (b != 32) = true := by simpa using h1
  have e2 : (b != 64) = true := by simpa using h2
  clear h1 h2
  go_enter Try.func20, Try.ntmps20
  go_wp2
  go_ret
  exact ⟨rfl, rfl⟩

theorem RKind_32 (a : Nat) (ha : a < 18446744073709551616) (w : World) : Calls Try.prog 20 #[.int .i64 32, .int .u64 a] w fun e w' => e = .returned (.int .i64 ((kindOf 2139095040 (a % 4294967296 % 2147483648) : Nat) : Int)) ∧ Below w.heap.size w w' := by
  have hz : (2147483648 : Nat) = 2147483648 ∧ 2139095040 = 2139095040 ∨ (2147483648 : Nat) = 9223372036854775808 ∧ 2139095040 = 9218868437227405312 := by decide
  have HV : ∀ W, Hid (Calls Try.prog 39 #[.int .i64 32, .int .u64 a] W (VPost 2147483648 2139095040 (a % 4294967296) W)) := fun W => hid (value_32 a W)
  have hc : a % 4294967296 < 2 * 2147483648 := by omega
  generalize a % 4294967296 = c at *
  have E0 := fun v (hv : ValOf 2147483648 2139095040 c v) => val_eq0 hz hc hv
  have EN := fun v (hv : ValOf 2147483648 2139095040 c v) => val_ne hc hv
  have SF := fun v (hv : ValOf 2147483648 2139095040 c v) => val_sub_fin hz hc hv
  have SI := fun v (hv : ValOf 2147483648 2139095040 c v) => val_sub_inf hz hc hv
  have h00 : Ieee.double.order 0 0 = some .eq := by decide +kernel
  have HE0 := hid E0
  have HEN := hid EN
  have HSF := hid SF
  have HSI := hid SI
  have H00 := hid h00
  clear E0 EN SF SI hz ha h00
  rcases rkind_cases (INF := 2139095040) (s := c % 2147483648) with h | h | h | h
  · have hs : 2139095040 < c % 2147483648 := by have := kindOf_four 2139095040 (c % 2147483648); rw [← this]; exact h
    rw [h]
    have HS := hid hs
    clear h hs hc
    go_enter Try.func20, Try.ntmps20
    go_wp2_with (go_at_call 39; ((with_reducible refine (HV _).out.mono ?_); rintro e w1 ⟨v, rfl, hv, hb⟩; have t1 : (FloatKind.f64.format.order v 0 == some .eq) = false := (HE0.out v hv).trans (by have := HS.out; simp; omega); have t2 : (FloatKind.f64.format.order v v != some .eq) = true := (HEN.out v hv).trans (by have := HS.out; simp; omega)))
    go_ret
    exact ⟨rfl, hb⟩
  · have hs : c % 2147483648 = 2139095040 := (kind3 (by decide)).1 h
    rw [h]
    have HS := hid hs
    clear h hs hc
    go_enter Try.func20, Try.ntmps20
    go_wp2_with (go_at_call 39; ((with_reducible refine (HV _).out.mono ?_); rintro e w1 ⟨v, rfl, hv, hb⟩; have t1 : (FloatKind.f64.format.order v 0 == some .eq) = false := (HE0.out v hv).trans (by have := HS.out; simp; omega); have t2 : (FloatKind.f64.format.order v v != some .eq) = false := (HEN.out v hv).trans (by have := HS.out; simp; omega); obtain ⟨N, hN1, hN2⟩ := sub_nan v (HSI.out v hv HS.out) w1; have t3 : (FloatKind.f64.format.order N 0 != some .eq) = true := (by have h9 : Ieee.double.order N 0 = none := order_nan fmt_double (.inl hN2); show (Ieee.double.order N 0 != some .eq) = true; rw [h9]; rfl); clear hN2))
    go_ret
    exact ⟨rfl, hb.drew⟩
  · have hs : c % 2147483648 = 0 := kind1.1 h
    rw [h]
    have HS := hid hs
    clear h hs hc
    go_enter Try.func20, Try.ntmps20
    go_wp2_with (go_at_call 39; ((with_reducible refine (HV _).out.mono ?_); rintro e w1 ⟨v, rfl, hv, hb⟩; have t1 : (FloatKind.f64.format.order v 0 == some .eq) = true := (HE0.out v hv).trans (by have := HS.out; simp [this])))
    go_ret
    exact ⟨rfl, hb⟩
  · have hs : c % 2147483648 ≠ 0 ∧ c % 2147483648 < 2139095040 := kind2.1 h
    rw [h]
    have HS := hid hs
    clear h hs hc
    go_enter Try.func20, Try.ntmps20
    go_wp2_with (go_at_call 39; ((with_reducible refine (HV _).out.mono ?_); rintro e w1 ⟨v, rfl, hv, hb⟩; have t1 : (FloatKind.f64.format.order v 0 == some .eq) = false := (HE0.out v hv).trans (by have := HS.out; simp; omega); have t2 : (FloatKind.f64.format.order v v != some .eq) = false := (HEN.out v hv).trans (by have := HS.out; simp; omega); have t3 : ∀ W : World, (binOp .sub 48 (.float .f64 v) (.float .f64 v)).run Try.prog W = .ok (.float .f64 0) W := (fun W => run_float_arith W .sub 48 .f64 v v 0 (HSF.out v hv HS.out.2)); have t4 : (FloatKind.f64.format.order 0 0 != some .eq) = false := (by show (Ieee.double.order 0 0 != some .eq) = false; rw [H00.out]; rfl)))
    go_ret
    exact ⟨rfl, hb⟩

theorem RKind_64 (a : Nat) (ha : a < 18446744073709551616) (w : World) : Calls Try.prog 20 #[.int .i64 64, .int .u64 a] w fun e w' => e = .returned (.int .i64 ((kindOf 9218868437227405312 (a % 18446744073709551616 % 9223372036854775808) : Nat) : Int)) ∧ Below w.heap.size w w' := by
  have hz : (9223372036854775808 : Nat) = 2147483648 ∧ 9218868437227405312 = 2139095040 ∨ (9223372036854775808 : Nat) = 9223372036854775808 ∧ 9218868437227405312 = 9218868437227405312 := by decide
  have HV : ∀ W, Hid (Calls Try.prog 39 #[.int .i64 64, .int .u64 a] W (VPost 9223372036854775808 9218868437227405312 (a % 18446744073709551616) W)) := fun W => hid (by rw [Nat.mod_eq_of_lt ha]; exact value_64 a ha W)
  have hc : a % 18446744073709551616 < 2 * 9223372036854775808 := by omega
  generalize a % 18446744073709551616 = c at *
  have E0 := fun v (hv : ValOf 9223372036854775808 9218868437227405312 c v) => val_eq0 hz hc hv
  have EN := fun v (hv : ValOf 9223372036854775808 9218868437227405312 c v) => val_ne hc hv
  have SF := fun v (hv : ValOf 9223372036854775808 9218868437227405312 c v) => val_sub_fin hz hc hv
  have SI := fun v (hv : ValOf 9223372036854775808 9218868437227405312 c v) => val_sub_inf hz hc hv
  have h00 : Ieee.double.order 0 0 = some .eq := by decide +kernel
  have HE0 := hid E0
  have HEN := hid EN
  have HSF := hid SF
  have HSI := hid SI
  have H00 := hid h00
  clear E0 EN SF SI hz ha h00
  rcases rkind_cases (INF := 9218868437227405312) (s := c % 9223372036854775808) with h | h | h | h
  · have hs : 9218868437227405312 < c % 9223372036854775808 := by have := kindOf_four 9218868437227405312 (c % 9223372036854775808); rw [← this]; exact h
    rw [h]
    have HS := hid hs
    clear h hs hc
    go_enter Try.func20, Try.ntmps20
    go_wp2_with (go_at_call 39; ((with_reducible refine (HV _).out.mono ?_); rintro e w1 ⟨v, rfl, hv, hb⟩; have t1 : (FloatKind.f64.format.order v 0 == some .eq) = false := (HE0.out v hv).trans (by have := HS.out; simp; omega); have t2 : (FloatKind.f64.format.order v v != some .eq) = true := (HEN.out v hv).trans (by have := HS.out; simp; omega)))
    go_ret
    exact ⟨rfl, hb⟩
  · have hs : c % 9223372036854775808 = 9218868437227405312 := (kind3 (by decide)).1 h
    rw [h]
    have HS := hid hs
    clear h hs hc
    go_enter Try.func20, Try.ntmps20
    go_wp2_with (go_at_call 39; ((with_reducible refine (HV _).out.mono ?_); rintro e w1 ⟨v, rfl, hv, hb⟩; have t1 : (FloatKind.f64.format.order v 0 == some .eq) = false := (HE0.out v hv).trans (by have := HS.out; simp; omega); have t2 : (FloatKind.f64.format.order v v != some .eq) = false := (HEN.out v hv).trans (by have := HS.out; simp; omega); obtain ⟨N, hN1, hN2⟩ := sub_nan v (HSI.out v hv HS.out) w1; have t3 : (FloatKind.f64.format.order N 0 != some .eq) = true := (by have h9 : Ieee.double.order N 0 = none := order_nan fmt_double (.inl hN2); show (Ieee.double.order N 0 != some .eq) = true; rw [h9]; rfl); clear hN2))
    go_ret
    exact ⟨rfl, hb.drew⟩
  · have hs : c % 9223372036854775808 = 0 := kind1.1 h
    rw [h]
    have HS := hid hs
    clear h hs hc
    go_enter Try.func20, Try.ntmps20
    go_wp2_with (go_at_call 39; ((with_reducible refine (HV _).out.mono ?_); rintro e w1 ⟨v, rfl, hv, hb⟩; have t1 : (FloatKind.f64.format.order v 0 == some .eq) = true := (HE0.out v hv).trans (by have := HS.out; simp [this])))
    go_ret
    exact ⟨rfl, hb⟩
  · have hs : c % 9223372036854775808 ≠ 0 ∧ c % 9223372036854775808 < 9218868437227405312 := kind2.1 h
    rw [h]
    have HS := hid hs
    clear h hs hc
    go_enter Try.func20, Try.ntmps20
    go_wp2_with (go_at_call 39; ((with_reducible refine (HV _).out.mono ?_); rintro e w1 ⟨v, rfl, hv, hb⟩; have t1 : (FloatKind.f64.format.order v 0 == some .eq) = false := (HE0.out v hv).trans (by have := HS.out; simp; omega); have t2 : (FloatKind.f64.format.order v v != some .eq) = false := (HEN.out v hv).trans (by have := HS.out; simp; omega); have t3 : ∀ W : World, (binOp .sub 48 (.float .f64 v) (.float .f64 v)).run Try.prog W = .ok (.float .f64 0) W := (fun W => run_float_arith W .sub 48 .f64 v v 0 (HSF.out v hv HS.out.2)); have t4 : (FloatKind.f64.format.order 0 0 != some .eq) = false := (by show (Ieee.double.order 0 0 != some .eq) = false; rw [H00.out]; rfl)))
    go_ret
    exact ⟨rfl, hb⟩

end Go.Proofs.Ytffceodbadedjaa
