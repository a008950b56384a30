/-
  What the program's product and quotient reckon is the product, the quotient. Condition: the format is that of 32 or of 64 bits; the numbers are those of a float's parts, moved up to 64 bits.
-/
import Derived.Test.YtffceodbadedjaaSumMath
set_option linter.unusedSimpArgs false
set_option linter.unusedVariables false
namespace Go.Proofs.Ytffceodbadedjaa
open Ieee

/-- A quotient, rounded. -/
def rungD (f : Format) (A B : Nat) (e : Int) : Nat := rungR f (A / B) e (decide (A % B ≠ 0))

theorem rungD_mul (f : Format) (A B c : Nat) (hc : 0 < c) (e : Int) : rungD f (A * c) (B * c) e = rungD f A B e := by
  unfold rungD
  rw [Nat.mul_div_mul_right _ _ hc, Nat.mul_mod_mul_right]
  congr 1
  apply decide_eq_decide.2
  constructor
  · intro h h2; exact h (by rw [h2, Nat.zero_mul])
  · intro h h2
    rcases Nat.mul_eq_zero.1 h2 with h3 | h3
    · exact h h3
    · omega

theorem rungD_scale (f : Format) (A B k : Nat) (hB : 0 < B) (e : Int) (h : 2 ^ (f.fractionBits + 1) ≤ A / B) : rungD f (A * 2 ^ k) B (e - k) = rungD f A B e := by
  unfold rungD rungR
  have hk : 0 < 2 ^ k := Nat.two_pow_pos k
  have hk1 : (2 : Nat) ^ (k + 1) = 2 * 2 ^ k := by rw [Nat.pow_succ]; omega
  obtain ⟨Q, hQ⟩ : ∃ Q, Q = A * 2 ^ k / B := ⟨_, rfl⟩
  obtain ⟨r, hr⟩ : ∃ r, r = A * 2 ^ k % B := ⟨_, rfl⟩
  rw [← hQ, ← hr]
  have hdm := Nat.div_add_mod (A * 2 ^ k) B
  rw [← hQ, ← hr] at hdm
  have hrl : r < B := by rw [hr]; exact Nat.mod_lt _ hB
  have hq : Q / 2 ^ k = A / B := by rw [hQ, Nat.div_div_eq_div_mul, Nat.mul_comm B, Nat.mul_comm A, Nat.mul_div_mul_left _ _ hk]
  have hMd : (2 * Q + (decide (r ≠ 0)).toNat) / 2 ^ (k + 1) = A / B := by
    have hb := Bool.toNat_le (decide (r ≠ 0))
    rw [hk1, ← Nat.div_div_eq_div_mul, show (2 * Q + (decide (r ≠ 0)).toNat) / 2 = Q by omega, hq]
  have hMm : (2 * Q + (decide (r ≠ 0)).toNat) % 2 ^ (k + 1) = 0 ↔ A % B = 0 := by
    have hb := Bool.toNat_le (decide (r ≠ 0))
    have hAB := Nat.div_add_mod A B
    have hQm := Nat.div_add_mod Q (2 ^ k)
    rw [hq] at hQm
    constructor
    · intro h0
      have hdvd : 2 ^ (k + 1) ∣ 2 * Q + (decide (r ≠ 0)).toNat := Nat.dvd_of_mod_eq_zero h0
      have hr0 : r = 0 := by
        have h2 : (2 * Q + (decide (r ≠ 0)).toNat) % 2 = 0 := Nat.mod_eq_zero_of_dvd (Nat.dvd_trans ⟨2 ^ k, hk1⟩ hdvd)
        by_cases hr0 : r = 0
        · exact hr0
        · have : (decide (r ≠ 0)).toNat = 1 := by simp [hr0]
          omega
      have hQd : Q % 2 ^ k = 0 := by
        rw [hr0] at hdvd
        have : 2 * 2 ^ k ∣ 2 * Q := by rw [← hk1]; simpa using hdvd
        exact Nat.mod_eq_zero_of_dvd (Nat.dvd_of_mul_dvd_mul_left (by decide) this)
      rw [hQd] at hQm
      rw [hr0] at hdm
      -- A * 2^k = B * Q = B * (2^k * (A/B))
      have h3 : A * 2 ^ k = B * (A / B) * 2 ^ k := by
        rw [← Nat.add_zero (A * 2 ^ k), ← hdm, ← hQm]
        simp only [Nat.add_zero]
        rw [Nat.mul_comm (2 ^ k) (A / B), Nat.mul_assoc]
      have h4 := Nat.eq_of_mul_eq_mul_right hk h3
      omega
    · intro h0
      have h1 : A = B * (A / B) := by omega
      have h2 : A * 2 ^ k = B * (A / B * 2 ^ k) := by rw [← Nat.mul_assoc, ← h1]
      have hr0 : r = 0 := by rw [hr, h2, Nat.mul_mod_right]
      have hQe : Q = A / B * 2 ^ k := by rw [hQ, h2, Nat.mul_div_cancel_left _ hB]
      rw [hr0, hQe, hk1]
      simp only [ne_eq, not_true_eq_false, decide_false, Bool.toNat_false, Nat.add_zero]
      rw [show 2 * (A / B * 2 ^ k) = A / B * (2 * 2 ^ k) by rw [← Nat.mul_assoc, ← Nat.mul_assoc, Nat.mul_comm 2]]
      exact Nat.mul_mod_left _ _
  have := rungOf_jam f (2 * Q + (decide (r ≠ 0)).toNat) (k + 1) (e - k - 1) (by rw [hMd]; exact h)
  rw [← this]
  unfold jam
  rw [hMd]
  congr 1
  · congr 1
    by_cases h0 : A % B = 0
    · rw [if_pos (hMm.2 h0)]; simp [h0]
    · rw [if_neg (fun h => h0 (hMm.1 h))]; simp [h0]
  · omega

theorem rungD_pow (f : Format) (A B : Nat) (hB : 0 < B) (E : Int) (K1 K2 : Nat) (h1 : 2 ^ (f.fractionBits + 1) ≤ A * 2 ^ K1 / B) (h2 : 2 ^ (f.fractionBits + 1) ≤ A * 2 ^ K2 / B) :
    rungD f (A * 2 ^ K1) B (E - K1) = rungD f (A * 2 ^ K2) B (E - K2) := by
  rcases Nat.le_total K1 K2 with h | h
  · have := rungD_scale f (A * 2 ^ K1) B (K2 - K1) hB (E - K1) h1
    rw [Nat.mul_assoc, ← Nat.pow_add, show K1 + (K2 - K1) = K2 by omega, show E - (K1 : Int) - ((K2 - K1 : Nat) : Int) = E - K2 by omega] at this
    exact this.symm
  · have := rungD_scale f (A * 2 ^ K2) B (K1 - K2) hB (E - K2) h2
    rw [Nat.mul_assoc, ← Nat.pow_add, show K2 + (K1 - K2) = K1 by omega, show E - (K2 : Int) - ((K1 - K2 : Nat) : Int) = E - K1 by omega] at this
    exact this

/-- The quotient of two numbers that are not 0. -/
theorem quo_math {f : Format} (hP : f.fractionBits ≤ 52) (sx sy : Bool) {m1 m2 j1 j2 : Nat} (e1 e2 : Int) (h1 : m1 ≠ 0) (h2 : m2 ≠ 0)
    (hm1 : m1 < 2 ^ (f.fractionBits + 1)) (hX : 9223372036854775808 ≤ m1 * 2 ^ j1) (hX2 : m1 * 2 ^ j1 < 18446744073709551616) (hY : 9223372036854775808 ≤ m2 * 2 ^ j2) (hY2 : m2 * 2 ^ j2 < 18446744073709551616) (hj2 : j2 ≤ 63) (hm2 : m2 < 2 ^ (f.fractionBits + 1)) :
    (Datum.quotient (f.fractionBits + 2) (.number sx m1 e1) (.number sy m2 e2)).map f.write =
      some (f.word (sx ^^ sy) (rungD f (2 ^ 62 * (m1 * 2 ^ j1 / 2)) (2 * (m2 * 2 ^ j2 / 2)) (e1 - j1 - (e2 - j2) - 61))) := by
  simp only [Datum.quotient, if_neg h2, Option.map_some, Option.some.injEq, Format.write]
  rw [nearest_eq]
  congr 1
  have h2p : 0 < m2 := by omega
  obtain ⟨mo, hmo⟩ : ∃ mo, mo = f.fractionBits + 2 + m2.log2 - m1.log2 := ⟨_, rfl⟩
  rw [← hmo, Nat.shiftLeft_eq]
  have hl1 := Nat.log2_self_le h1
  have hl2 := @Nat.lt_log2_self m2
  have q2 : 2 ^ (f.fractionBits + 1) ≤ m1 * 2 ^ mo / m2 := by
    rw [Nat.le_div_iff_mul_le h2p]
    calc 2 ^ (f.fractionBits + 1) * m2 ≤ 2 ^ (f.fractionBits + 1) * 2 ^ (m2.log2 + 1) := Nat.mul_le_mul_left _ (by omega)
      _ = 2 ^ (f.fractionBits + 1 + (m2.log2 + 1)) := by rw [← Nat.pow_add]
      _ ≤ 2 ^ (m1.log2 + mo) := Nat.pow_le_pow_right (by decide) (by omega)
      _ = 2 ^ m1.log2 * 2 ^ mo := Nat.pow_add ..
      _ ≤ m1 * 2 ^ mo := Nat.mul_le_mul_right _ hl1
  have hpow : ∀ {m j : Nat}, m < 2 ^ (f.fractionBits + 1) → 9223372036854775808 ≤ m * 2 ^ j → 11 ≤ j := fun {m j} hm hj => by
    rcases Nat.lt_or_ge j 11 with h | h
    · exfalso
      have a1 : (2 : Nat) ^ j ≤ 2 ^ 10 := Nat.pow_le_pow_right (by decide) (by omega)
      have a2 : (2 : Nat) ^ (f.fractionBits + 1) ≤ 2 ^ 53 := Nat.pow_le_pow_right (by decide) (by omega)
      have a3 : m * 2 ^ j < 2 ^ 53 * 2 ^ 10 := Nat.lt_of_lt_of_le (Nat.mul_lt_mul_of_pos_right (Nat.lt_of_lt_of_le hm a2) (Nat.two_pow_pos j)) (Nat.mul_le_mul_left _ a1)
      have a4 : (2 : Nat) ^ 53 * 2 ^ 10 = 9223372036854775808 := by decide
      omega
    · exact h
  have hj1 := hpow hm1 hX
  have hj2b := hpow hm2 hY
  have half : ∀ {m j : Nat}, 1 ≤ j → 2 * (m * 2 ^ j / 2) = m * 2 ^ j := fun {m j} h => by
    obtain ⟨i, rfl⟩ : ∃ i, j = i + 1 := ⟨j - 1, by omega⟩
    rw [Nat.pow_succ, ← Nat.mul_assoc, Nat.mul_div_cancel _ (by decide), Nat.mul_comm]
  have hA : 2 ^ 62 * (m1 * 2 ^ j1 / 2) = m1 * 2 ^ (61 + j1) := by
    have := half (m := m1) (j := j1) (by omega)
    rw [show (2 : Nat) ^ 62 = 2 ^ 61 * 2 by decide, Nat.mul_assoc, this, Nat.pow_add, ← Nat.mul_assoc, ← Nat.mul_assoc, Nat.mul_comm (2 ^ 61) m1]
  rw [hA, half (m := m2) (j := j2) (by omega)]
  have hsplit : m1 * 2 ^ (61 + j1) = m1 * 2 ^ (61 + j1 - j2) * 2 ^ j2 := by rw [Nat.mul_assoc, ← Nat.pow_add]; congr 2; omega
  rw [hsplit, rungD_mul f _ _ _ (Nat.two_pow_pos j2)]
  have q1 : 2 ^ (f.fractionBits + 1) ≤ m1 * 2 ^ (61 + j1 - j2) / m2 := by
    have a2 : (2 : Nat) ^ (f.fractionBits + 1) ≤ 2 ^ 53 := Nat.pow_le_pow_right (by decide) (by omega)
    refine Nat.le_trans a2 ?_
    rw [Nat.le_div_iff_mul_le h2p]
    have hp := Nat.two_pow_pos j2
    apply Nat.le_of_mul_le_mul_right _ hp
    rw [← hsplit, Nat.mul_assoc, Nat.pow_add, show m1 * (2 ^ 61 * 2 ^ j1) = 2 ^ 61 * (m1 * 2 ^ j1) by rw [← Nat.mul_assoc, ← Nat.mul_assoc, Nat.mul_comm m1]]
    calc 2 ^ 53 * (m2 * 2 ^ j2) ≤ 2 ^ 53 * 18446744073709551616 := Nat.mul_le_mul_left _ (by omega)
      _ ≤ 2 ^ 61 * 9223372036854775808 := by decide
      _ ≤ 2 ^ 61 * (m1 * 2 ^ j1) := Nat.mul_le_mul_left _ hX
  have key := rungD_pow f m1 m2 h2p (e1 - e2) mo (61 + j1 - j2) q2 q1
  rw [show e1 - (j1 : Int) - (e2 - (j2 : Int)) - 61 = e1 - e2 - ((61 + j1 - j2 : Nat) : Int) by omega, ← key]
  unfold rungD rungR
  congr 2
  by_cases h0 : m1 * 2 ^ mo % m2 = 0
  · simp [h0]
  · simp [h0]

end Go.Proofs.Ytffceodbadedjaa
