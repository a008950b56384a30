/-
  The reference's rounding, bit by bit, on plain numbers. Condition: the format is that of 32 or of 64 bits.
-/
import Derived.Test.YtffceodbadedjaaOpMath
set_option linter.unusedSimpArgs false
set_option linter.unusedVariables false
namespace Go.Proofs.Ytffceodbadedjaa
open Ieee

/-- What was cut off, in four kinds. -/
def restF (M k : Nat) : Nat :=
  if M % 2 ^ (k + 2) = 0 then 0 else if M % 2 ^ (k + 2) < 2 ^ (k + 1) then 1 else if M % 2 ^ (k + 2) = 2 ^ (k + 1) then 2 else 3

theorem rest_step (M k : Nat) : restF M (k + 1) = if M / 2 ^ (k + 2) % 2 = 1 then (if restF M k = 0 then 2 else 3) else (if 1 < restF M k then 1 else restF M k) := by
  have hp : 0 < 2 ^ (k + 1) := Nat.two_pow_pos _
  have e1 : (2 : Nat) ^ (k + 2) = 2 * 2 ^ (k + 1) := by rw [Nat.pow_succ 2 (k + 1)]; omega
  have e2 : (2 : Nat) ^ (k + 1 + 2) = 2 ^ (k + 2) * 2 := by rw [← Nat.pow_succ]
  have hm : M % 2 ^ (k + 1 + 2) = M % 2 ^ (k + 2) + 2 ^ (k + 2) * (M / 2 ^ (k + 2) % 2) := by rw [e2, Nat.mod_mul]
  have hl := Nat.mod_lt M (Nat.two_pow_pos (k + 2))
  unfold restF
  rw [hm, show k + 1 + 1 = k + 2 by omega]
  generalize M % 2 ^ (k + 2) = r at *
  rcases Nat.mod_two_eq_zero_or_one (M / 2 ^ (k + 2)) with h | h
  · rw [h, Nat.mul_zero, Nat.add_zero, if_neg (show ¬ (0 : Nat) = 1 by decide)]
    by_cases h0 : r = 0
    · simp [h0]
    · rw [if_neg h0, if_neg h0, if_pos hl]
      by_cases h1 : r < 2 ^ (k + 1)
      · simp [h1]
      · rw [if_neg h1]
        by_cases h2 : r = 2 ^ (k + 1)
        · simp [h2]
        · simp [h2]
  · rw [h, Nat.mul_one, if_pos rfl]
    rw [if_neg (by omega), if_neg (by omega)]
    by_cases h0 : r = 0
    · simp [h0]
    · rw [if_neg (by omega), if_neg h0]
      by_cases h1 : r < 2 ^ (k + 1)
      · simp [h1]
      · rw [if_neg h1]
        by_cases h2 : r = 2 ^ (k + 1)
        · simp [h2]
        · simp [h2]

theorem rest_lt (M k : Nat) : restF M k ≤ 3 := by
  unfold restF; split
  · omega
  · split
    · omega
    · split <;> omega

theorem rest_zero (m : Nat) (mo : Bool) : restF (4 * m + mo.toNat) 0 = mo.toNat := by
  unfold restF
  have : (4 * m + mo.toNat) % 2 ^ (0 + 2) = mo.toNat := by
    have := Bool.toNat_le mo
    rw [show (2 : Nat) ^ (0 + 2) = 4 by decide]; omega
  rw [this]
  cases mo <;> rfl

/-- Whether one is added. -/
theorem rne_rest (M k : Nat) : rne M (k + 2) = M / 2 ^ (k + 2) + if restF M k = 3 ∨ (restF M k = 2 ∧ M / 2 ^ (k + 2) % 2 = 1) then 1 else 0 := by
  have e1 : (2 : Nat) ^ (k + 2) = 2 * 2 ^ (k + 1) := by rw [Nat.pow_succ 2 (k + 1)]; omega
  have hp : 0 < 2 ^ (k + 1) := Nat.two_pow_pos _
  have hl := Nat.mod_lt M (Nat.two_pow_pos (k + 2))
  unfold rne restF
  generalize M / 2 ^ (k + 2) % 2 = q
  congr 1
  generalize M % 2 ^ (k + 2) = r at *
  rw [e1] at hl ⊢
  generalize 2 ^ (k + 1) = h at *
  by_cases h0 : r = 0
  · subst h0; simp; omega
  · rw [if_neg h0]
    by_cases h1 : r < h
    · rw [if_pos h1, if_neg (by omega)]; simp
    · rw [if_neg h1]
      by_cases h2 : r = h
      · rw [if_pos h2]; subst h2; simp
      · rw [if_neg h2, if_pos (by omega)]; simp

theorem div_four (m k : Nat) (mo : Bool) : (4 * m + mo.toNat) / 2 ^ (k + 2) = m / 2 ^ k := by
  have := Bool.toNat_le mo
  rw [Nat.pow_add, Nat.mul_comm (2 ^ k), ← Nat.div_div_eq_div_mul, show (4 * m + mo.toNat) / 2 ^ 2 = m by rw [show (2 : Nat) ^ 2 = 4 by decide]; omega]

theorem rungR_four {f : Format} (hP : f.fractionBits ≤ 52) (m : Nat) (e : Int) (mo : Bool) (hmo : mo = true → 288230376151711744 ≤ m) : rungR f m e mo = rungOf f (4 * m + mo.toNat) (e - 2) := by
  have hb := Bool.toNat_le mo
  have := rungR_jam f (4 * m + mo.toNat) 2 (e - 2) (by
    intro h
    rw [show (2 : Nat) ^ 2 = 4 by decide] at h ⊢
    have h53 : (2 : Nat) ^ (f.fractionBits + 1) ≤ 2 ^ 53 := Nat.pow_le_pow_right (by decide) (by omega)
    have c53 : (2 : Nat) ^ 53 = 9007199254740992 := by decide
    cases mo with
    | false => exfalso; apply h; simp
    | true => have := hmo rfl; simp; omega)
  rw [← this, show (2 : Nat) ^ 2 = 4 by decide, show (4 * m + mo.toNat) / 4 = m by omega, show (4 * m + mo.toNat) % 4 = mo.toNat by omega, show e - 2 + ((2 : Nat) : Int) = e by omega]
  cases mo <;> rfl

section
variable {f : Format} {SB INF P : Nat} {low : Int} (F : Fmt f SB INF P low)
include F

theorem last_four {m : Nat} (h0 : m ≠ 0) (e : Int) (mo : Bool) : lastP f (4 * m + mo.toNat) (e - 2) = max (e + m.log2 - P) low := by
  have hb := Bool.toNat_le mo
  have hlog : (4 * m + mo.toNat).log2 = m.log2 + 2 := by
    rw [Nat.log2_eq_iff (by omega)]
    have h1 := Nat.log2_self_le h0
    have h2 := @Nat.lt_log2_self m
    have e1 : (2 : Nat) ^ (m.log2 + 2) = 4 * 2 ^ m.log2 := by rw [Nat.pow_add]; omega
    have e2 : (2 : Nat) ^ (m.log2 + 2 + 1) = 4 * 2 ^ (m.log2 + 1) := by rw [show m.log2 + 2 + 1 = m.log2 + 1 + 2 by omega, Nat.pow_add]; omega
    omega
  unfold lastP
  rw [hlog, F.fr, F.lp]
  congr 1
  omega

/-- The state of the reference's second loop: a number, and its place. -/
def NearS (P : Nat) (low : Int) (m : Nat) (e : Int) (mo : Bool) (mm : Nat) (ee : Int) : Prop :=
  mm ≤ 2 ^ (P + 1) ∧ low ≤ ee ∧ (ee = max (e + m.log2 - P) low ∧ mm = rneI (4 * m + mo.toNat) (ee - (e - 2)) ∨ max (e + m.log2 - P) low < ee ∧ ee ≤ e ∧ mo = false ∧ mm = m * 2 ^ (e - ee).toNat)

omit F in
theorem rneI_four (m i : Nat) : rneI (4 * m + false.toNat) (2 - i) = m * 2 ^ i := by
  have := rneI_scale m (-(i : Int)) 2
  rw [show (2 : Nat) ^ 2 = 4 by decide, Nat.mul_comm m 4, show -(i : Int) + ((2 : Nat) : Int) = 2 - i by omega] at this
  show rneI (4 * m + 0) (2 - i) = _
  rw [Nat.add_zero, this]
  unfold rneI
  by_cases h : i = 0
  · subst h; simp [rne_zero]
  · rw [if_neg (by omega)]; congr 2; omega

/-- Where the first loop ends the second one begins. -/
theorem near_mid {m : Nat} (h0 : m ≠ 0) (e : Int) (mo : Bool) (hmo : mo = true → 288230376151711744 ≤ m) {k : Nat} (h1 : m / 2 ^ k < 2 ^ (P + 1)) (h2 : low ≤ e + k)
    (hk : k = 0 ∨ 2 ^ (P + 1) ≤ m / 2 ^ (k - 1) ∨ e + k - 1 < low) :
    NearS P low m e mo (m / 2 ^ k + if restF (4 * m + mo.toNat) k = 3 ∨ (restF (4 * m + mo.toNat) k = 2 ∧ m / 2 ^ k % 2 = 1) then 1 else 0) (e + k) := by
  have hlo := Nat.log2_self_le h0
  have hhi := @Nat.lt_log2_self m
  have lt_iff : ∀ j, m / 2 ^ j < 2 ^ (P + 1) ↔ m.log2 < P + 1 + j := fun j => by
    rw [Nat.div_lt_iff_lt_mul (Nat.two_pow_pos j), ← Nat.pow_add, Nat.log2_lt h0]
  have h3 := (lt_iff k).1 h1
  have hr := rne_rest (4 * m + mo.toNat) k
  rw [div_four] at hr
  refine ⟨by split <;> omega, h2, ?_⟩
  by_cases hL : e + k = max (e + m.log2 - P) low
  · left
    refine ⟨hL, ?_⟩
    rw [← hr]
    unfold rneI
    rw [if_pos (by omega)]
    congr 1
    omega
  · right
    have hk0 : k = 0 := by
      rcases hk with h | h | h
      · exact h
      · have h4 : ¬ m.log2 < P + 1 + (k - 1) := fun h5 => by have := (lt_iff (k - 1)).2 h5; omega
        omega
      · omega
    subst hk0
    have hmf : mo = false := by
      cases mo with
      | false => rfl
      | true =>
        exfalso
        have h5 := hmo rfl
        rw [Nat.pow_zero, Nat.div_one] at h1
        have h53 : (2 : Nat) ^ (P + 1) ≤ 2 ^ 53 := Nat.pow_le_pow_right (by decide) (by have := F.p52; omega)
        have c53 : (2 : Nat) ^ 53 = 9007199254740992 := by decide
        omega
    subst hmf
    have hrz := rest_zero m false
    refine ⟨by omega, by omega, rfl, ?_⟩
    rw [hrz]
    simp

omit F in
/-- In the second loop, but at its end, the number is doubled. -/
theorem near_step {m : Nat} (h0 : m ≠ 0) {e : Int} {mo : Bool} {mm : Nat} {ee : Int} (h : NearS P low m e mo mm ee) (h1 : mm < 2 ^ P) (h2 : low < ee) : NearS P low m e mo (mm * 2) (ee - 1) := by
  obtain ⟨_, _, h3⟩ := h
  have hlo := Nat.log2_self_le h0
  have hhi := @Nat.lt_log2_self m
  have e1 : (2 : Nat) ^ (P + 1) = 2 * 2 ^ P := by rw [Nat.pow_succ]; omega
  rcases h3 with ⟨h3, h4⟩ | ⟨h3, h4, h5, h6⟩
  · exfalso
    have hL : ee = e + m.log2 - P := by omega
    have : 2 ^ P ≤ mm := by
      rw [h4]
      unfold rneI
      by_cases hc : 0 ≤ ee - (e - 2)
      · rw [if_pos hc]
        refine Nat.le_trans ?_ (Nat.le_add_right _ _)
        rw [Nat.le_div_iff_mul_le (Nat.two_pow_pos _), ← Nat.pow_add, show P + (ee - (e - 2)).toNat = m.log2 + 2 by omega, Nat.pow_add]
        omega
      · rw [if_neg hc]
        calc 2 ^ P = 2 ^ (m.log2 + 2 + (-(ee - (e - 2))).toNat) := by congr 1; omega
          _ = 2 ^ (m.log2 + 2) * 2 ^ (-(ee - (e - 2))).toNat := Nat.pow_add ..
          _ ≤ _ := Nat.mul_le_mul_right _ (by rw [Nat.pow_add]; omega)
    omega
  · have e2 : mm * 2 = m * 2 ^ (e - (ee - 1)).toNat := by
      rw [h6, show (e - (ee - 1)).toNat = (e - ee).toNat + 1 by omega, Nat.pow_succ, Nat.mul_assoc]
    refine ⟨by omega, by omega, ?_⟩
    by_cases hL : ee - 1 = max (e + m.log2 - P) low
    · left
      refine ⟨hL, ?_⟩
      subst h5
      rw [show ee - 1 - (e - 2) = 2 - ((e - (ee - 1)).toNat : Int) by omega, rneI_four, e2]
    · right
      exact ⟨by omega, by omega, h5, e2⟩

/-- At the second loop's end: the rung. -/
theorem near_end {m : Nat} (h0 : m ≠ 0) {e : Int} {mo : Bool} (hmo : mo = true → 288230376151711744 ≤ m) {mm : Nat} {ee : Int} (h : NearS P low m e mo mm ee) (h1 : 2 ^ P ≤ mm ∨ ee ≤ low) :
    rungR f m e mo = min ((ee - low).toNat * 2 ^ P + mm) INF ∧ mm ≤ 2 ^ (P + 1) ∧ low ≤ ee := by
  obtain ⟨hb, hl, h3⟩ := h
  refine ⟨?_, hb, hl⟩
  have hlo := Nat.log2_self_le h0
  have hhi := @Nat.lt_log2_self m
  rw [rungR_four (by rw [F.fr]; exact F.p52) m e mo hmo]
  have hM : 4 * m + mo.toNat ≠ 0 := by omega
  have key : ee = max (e + m.log2 - P) low ∧ mm = rneI (4 * m + mo.toNat) (ee - (e - 2)) := by
    rcases h3 with h3 | ⟨h3, h4, h5, h6⟩
    · exact h3
    · exfalso
      rcases h1 with h1 | h1
      · rw [h6] at h1
        have h7 : m * 2 ^ (e - ee).toNat < 2 ^ (m.log2 + 1 + (e - ee).toNat) := by
          rw [Nat.pow_add]; exact Nat.mul_lt_mul_of_pos_right hhi (Nat.two_pow_pos _)
        have h8 : 2 ^ P < 2 ^ (m.log2 + 1 + (e - ee).toNat) := Nat.lt_of_le_of_lt h1 h7
        have h9 := (Nat.pow_lt_pow_iff_right (show 1 < 2 by decide)).1 h8
        omega
      · omega
  unfold rungOf
  rw [if_neg hM, last_four F h0, ← key.1, ← key.2, F.lp, F.fr, F.inf]
end

end Go.Proofs.Ytffceodbadedjaa
