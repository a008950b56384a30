/-
  What is converted comes back: in plain numbers. Conditions as each theorem says.
-/
import Derived.Test.YtnpamiofhalimaaCConv
import Derived.Test.YtnpamiofhalimaaVal
set_option linter.unusedSimpArgs false
set_option linter.unusedVariables false
namespace Go.Proofs.Ytnpamiofhalimaa
open Ieee

/-- A float of 32 bits that is no NaN, promoted, is what Ieee's own conversion says. -/
theorem promote_vS {c : Nat} (hc : c < 2 * 2147483648) (h : c % 2147483648 ≤ 2139095040) : resW double 9221120237041090560 2147483648 2139095040 23 (-149) c = vS c := by
  unfold resW
  rw [if_neg (by omega), rungR_false]
  unfold wm we vS
  rcases Nat.lt_or_ge (c % 2147483648) 2139095040 with h1 | h1
  · rw [if_neg (by omega), if_neg (by omega), read_fin fmt_single.sb fmt_single.fr fmt_single.lp hc h1]
    exact (nearest_eq double _ _ _).symm
  · have h2 : c % 2147483648 = 2139095040 := by omega
    rw [if_pos h2, if_pos h2, read_inf (f := single) fmt_single.sb hc fmt_single.bi h2]
    cases decide (2147483648 ≤ c) <;> decide +kernel

/-- And demoted it is what it was. -/
theorem demote_vS {c : Nat} (hc : c < 2 * 2147483648) (h : c % 2147483648 ≤ 2139095040) : resW single 2143289344 9223372036854775808 9218868437227405312 52 (-1074) (vS c) = c := by
  obtain ⟨hr, hlt, hle⟩ := vS_read hc h
  unfold resW
  rw [if_neg (by omega), rungR_false]
  unfold wm we
  rcases hr with ⟨h1, h2, h3⟩ | ⟨h1, h2, h3⟩
  · have hfin : vS c % 9223372036854775808 < 9218868437227405312 := by
      rcases Nat.lt_or_ge (vS c % 9223372036854775808) 9218868437227405312 with h4 | h4
      · exact h4
      · have h5 : vS c % 9223372036854775808 = 9218868437227405312 := by omega
        rw [read_inf (f := double) fmt_double.sb hlt fmt_double.bi h5] at h2
        unfold wideD at h2
        split at h2 <;> cases h2
    rw [read_fin fmt_double.sb fmt_double.fr fmt_double.lp hlt hfin] at h2
    rw [if_neg (by omega), if_neg (by omega)]
    have hb := rungOf_parts fmt_single h1
    generalize pm 52 (vS c % 9223372036854775808) = m' at *
    generalize pe 52 (-1074) (vS c % 9223372036854775808) = e' at *
    generalize decide (9223372036854775808 ≤ vS c) = s' at *
    unfold wideD at h2
    by_cases h0 : pm 23 (c % 2147483648) = 0
    · rw [if_pos h0] at h2
      rw [h0] at hb
      injection h2 with a1 a2 a3
      subst a1 a2 a3
      rw [show rungOf single 0 (-1074) = 0 from rfl]
      rw [show rungOf single 0 (pe 23 (-149) (c % 2147483648)) = 0 from rfl] at hb
      rw [hb]
      exact word_sz fmt_single hc
    · rw [if_neg h0] at h2
      injection h2 with a1 a2 a3
      subst a1 a2 a3
      rw [rungOf_scale, hb]
      exact word_sz fmt_single hc
  · have hinf : vS c % 9223372036854775808 = 9218868437227405312 := by
      rcases Nat.lt_or_ge (vS c % 9223372036854775808) 9218868437227405312 with h4 | h4
      · rw [read_fin fmt_double.sb fmt_double.fr fmt_double.lp hlt h4] at h2; cases h2
      · omega
    rw [read_inf (f := double) fmt_double.sb hlt fmt_double.bi hinf] at h2
    injection h2 with a1
    rw [if_pos hinf, if_pos hinf, a1, show rungOf single 1 1024 = 2139095040 by decide +kernel, ← h1]
    exact word_sz fmt_single hc

/-- A whole number of at most 53 bits as a float of 64: its parts make it. -/
theorem int_back (s : Bool) (M : Nat) (hM : M < 9007199254740992) : ∃ b : Nat, double.word s (rungR double M 0 false) = b ∧ b < 2 * 9223372036854775808 ∧ b % 9223372036854775808 < 9218868437227405312 ∧ decide (9223372036854775808 ≤ b) = s ∧
    mag (wm 9223372036854775808 9218868437227405312 52 b) (we 9223372036854775808 9218868437227405312 52 (-1074) b) = M := by
  obtain ⟨h1, h2, h3, h4⟩ := read_write_double s M 0 hM (by decide) (by decide)
  have hw : double.word s (rungR double M 0 false) = double.write (.number s M 0) := by rw [rungR_false]; exact (nearest_eq double _ _ _).symm
  generalize double.write (.number s M 0) = b at *
  refine ⟨b, hw, h2, h3, h4, ?_⟩
  unfold wm we
  rw [if_neg (by omega), if_neg (by omega)]
  rw [read_fin fmt_double.sb fmt_double.fr fmt_double.lp h2 h3] at h1
  unfold wideD at h1
  by_cases h0 : M = 0
  · rw [if_pos h0] at h1
    injection h1 with a1 a2 a3
    rw [a2, a3, h0]
    unfold mag
    rw [if_pos (by decide), Nat.zero_div]
  · rw [if_neg h0] at h1
    injection h1 with a1 a2 a3
    rw [a2, a3]
    generalize 52 - M.log2 = k
    unfold mag
    by_cases hk : k = 0
    · subst hk; simp
    · rw [if_pos (by omega), show (-(0 - (k : Int))).toNat = k by omega]
      exact Nat.mul_div_cancel _ (Nat.two_pow_pos k)

end Go.Proofs.Ytnpamiofhalimaa
