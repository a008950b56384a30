/-
  Roots on plain numbers. Conditions as each theorem says.
-/
import Derived.Test.YtffceodbadedjaaOpMath
import Derived.Test.YtffceodbadedjaaRoundMath
set_option linter.unusedSimpArgs false
set_option linter.unusedVariables false
namespace Go.Proofs.Ytffceodbadedjaa
open Ieee

def SqrtOf (n r : Nat) : Prop := r * r ≤ n ∧ n < (r + 1) * (r + 1)

theorem sqrt_unique {n r s : Nat} (h1 : SqrtOf n r) (h2 : SqrtOf n s) : r = s := by
  rcases Nat.lt_trichotomy r s with h | h | h
  · have : (r + 1) * (r + 1) ≤ s * s := Nat.mul_le_mul h h
    have := h1.2; have := h2.1; omega
  · exact h
  · have : (s + 1) * (s + 1) ≤ r * r := Nat.mul_le_mul h h
    have := h2.2; have := h1.1; omega

theorem rootFrom_spec (n : Nat) : ∀ (todo root : Nat), root * root ≤ n → n < (root + 2 ^ todo) * (root + 2 ^ todo) → SqrtOf n (Datum.rootFrom n todo root)
  | 0, root, h1, h2 => by
    have h3 : n < (root + 1) * (root + 1) := by simpa using h2
    exact ⟨h1, h3⟩
  | todo + 1, root, h1, h2 => by
    unfold Datum.rootFrom
    simp only [Nat.one_shiftLeft]
    by_cases hc : (root + 2 ^ todo) * (root + 2 ^ todo) ≤ n
    · rw [if_pos hc]
      refine rootFrom_spec n todo _ hc ?_
      rw [show root + 2 ^ todo + 2 ^ todo = root + 2 ^ (todo + 1) by rw [Nat.pow_succ]; omega]
      exact h2
    · rw [if_neg hc]
      exact rootFrom_spec n todo root h1 (by omega)

theorem root_spec (n : Nat) : SqrtOf n (Datum.rootFrom n (n.log2 / 2 + 1) 0) := by
  refine rootFrom_spec n _ 0 (by simp) ?_
  have h1 := @Nat.lt_log2_self n
  rw [Nat.zero_add, ← Nat.pow_add]
  exact Nat.lt_of_lt_of_le h1 (Nat.pow_le_pow_right (by decide) (by omega))

/-- A root, rounded. -/
def rungS (f : Format) (n r : Nat) (e : Int) : Nat := rungR f r e (decide (r * r ≠ n))

theorem rungS_scale (f : Format) {n r R k : Nat} (h : SqrtOf n r) (hR : SqrtOf (n * (2 ^ k * 2 ^ k)) R) (e : Int) (hlo : 2 ^ (f.fractionBits + 1) ≤ r) :
    rungS f (n * (2 ^ k * 2 ^ k)) R (e - k) = rungS f n r e := by
  have hk : 0 < 2 ^ k := Nat.two_pow_pos k
  have hk1 : (2 : Nat) ^ (k + 1) = 2 * 2 ^ k := by rw [Nat.pow_succ]; omega
  have sq : ∀ x : Nat, (x * 2 ^ k) * (x * 2 ^ k) = x * x * (2 ^ k * 2 ^ k) := fun x => by
    rw [Nat.mul_mul_mul_comm]
  have hle : r * 2 ^ k ≤ R := by
    rcases Nat.lt_or_ge R (r * 2 ^ k) with hc | hc
    · exfalso
      have h1 : (R + 1) * (R + 1) ≤ (r * 2 ^ k) * (r * 2 ^ k) := Nat.mul_le_mul hc hc
      rw [sq] at h1
      have h2 : r * r * (2 ^ k * 2 ^ k) ≤ n * (2 ^ k * 2 ^ k) := Nat.mul_le_mul_right _ h.1
      have := hR.2
      omega
    · exact hc
  have hlt : R < (r + 1) * 2 ^ k := by
    rcases Nat.lt_or_ge R ((r + 1) * 2 ^ k) with hc | hc
    · exact hc
    · exfalso
      have h1 : ((r + 1) * 2 ^ k) * ((r + 1) * 2 ^ k) ≤ R * R := Nat.mul_le_mul hc hc
      rw [sq] at h1
      have h2 : n * (2 ^ k * 2 ^ k) < (r + 1) * (r + 1) * (2 ^ k * 2 ^ k) := Nat.mul_lt_mul_of_pos_right h.2 (Nat.mul_pos hk hk)
      have := hR.1
      omega
  have hq : R / 2 ^ k = r := by
    rw [Nat.div_eq_iff hk]
    rw [Nat.add_mul, Nat.one_mul] at hlt
    omega
  have hex : (R % 2 ^ k = 0 ∧ R * R = n * (2 ^ k * 2 ^ k)) ↔ r * r = n := by
    constructor
    · rintro ⟨h1, h2⟩
      have h3 : R = r * 2 ^ k := by
        have := Nat.div_add_mod R (2 ^ k)
        rw [hq, h1, Nat.add_zero, Nat.mul_comm] at this
        exact this.symm
      rw [h3, sq] at h2
      exact Nat.eq_of_mul_eq_mul_right (Nat.mul_pos hk hk) h2
    · intro h1
      have h2 : SqrtOf (n * (2 ^ k * 2 ^ k)) (r * 2 ^ k) := by
        refine ⟨by rw [sq, h1]; exact Nat.le_refl _, ?_⟩
        rw [← h1, ← sq]
        exact Nat.mul_lt_mul_of_lt_of_le (Nat.lt_succ_self _) (Nat.le_succ _) (by omega)
      have h3 := sqrt_unique hR h2
      rw [h3]
      exact ⟨Nat.mul_mod_left _ _, by rw [sq, h1]⟩
  have hb := Bool.toNat_le (decide (R * R ≠ n * (2 ^ k * 2 ^ k)))
  obtain ⟨s, hs⟩ : ∃ s : Nat, s = (decide (R * R ≠ n * (2 ^ k * 2 ^ k))).toNat := ⟨_, rfl⟩
  rw [← hs] at hb
  have hMd : (2 * R + s) / 2 ^ (k + 1) = r := by
    rw [hk1, ← Nat.div_div_eq_div_mul, show (2 * R + s) / 2 = R by omega, hq]
  have hMm : (2 * R + s) % 2 ^ (k + 1) = 0 ↔ r * r = n := by
    rw [← hex]
    have hs0 : s = 0 ↔ R * R = n * (2 ^ k * 2 ^ k) := by
      rw [hs]
      by_cases hc : R * R = n * (2 ^ k * 2 ^ k) <;> simp [hc]
    rw [← hs0]
    constructor
    · intro h0
      have hdvd : 2 ^ (k + 1) ∣ 2 * R + s := Nat.dvd_of_mod_eq_zero h0
      have h2 : (2 * R + s) % 2 = 0 := Nat.mod_eq_zero_of_dvd (Nat.dvd_trans ⟨2 ^ k, hk1⟩ hdvd)
      have hs1 : s = 0 := by omega
      refine ⟨?_, hs1⟩
      rw [hs1, Nat.add_zero, hk1] at hdvd
      exact Nat.mod_eq_zero_of_dvd (Nat.dvd_of_mul_dvd_mul_left (by decide) hdvd)
    · rintro ⟨h1, h2⟩
      rw [h2, Nat.add_zero, hk1, Nat.mul_mod_mul_left, h1]
  have := rungOf_jam f (2 * R + s) (k + 1) (e - k - 1) (by rw [hMd]; exact hlo)
  unfold rungS rungR
  rw [← hs, ← this]
  unfold jam
  rw [hMd]
  congr 1
  · congr 1
    by_cases h0 : r * r = n
    · rw [if_pos (hMm.2 h0)]; simp [h0]
    · rw [if_neg (fun h => h0 (hMm.1 h))]; simp [h0]
  · omega

theorem sqrt_lo {n r k : Nat} (h : SqrtOf n r) (hn : 2 ^ (2 * k) ≤ n) : 2 ^ k ≤ r := by
  rcases Nat.lt_or_ge r (2 ^ k) with hc | hc
  · exfalso
    have h1 : (r + 1) * (r + 1) ≤ 2 ^ k * 2 ^ k := Nat.mul_le_mul hc hc
    rw [← Nat.pow_add, show k + k = 2 * k by omega] at h1
    have := h.2
    omega
  · exact hc

/-- The root of a number that is not 0: by any of the ways in which it can be written with an even place. -/
theorem root_math {f : Format} (m : Nat) (e : Int) (hm : m ≠ 0) {K r : Nat} (hK : (e - K) % 2 = 0) (hr : SqrtOf (m * 2 ^ K) r) (hlo : 2 ^ (2 * (f.fractionBits + 1)) ≤ m * 2 ^ K) :
    ((Datum.number false m e).root (f.fractionBits + 2)).map f.write = some (f.word false (rungS f (m * 2 ^ K) r ((e - K) / 2))) := by
  simp only [Datum.root, if_neg hm]
  obtain ⟨mo, hmo⟩ : ∃ mo : Nat, mo = 2 * (f.fractionBits + 2) - m.log2 := ⟨_, rfl⟩
  rw [← hmo]
  obtain ⟨J, hJ⟩ : ∃ J : Nat, J = mo + ((e - (mo : Int)) % 2).toNat := ⟨_, rfl⟩
  rw [← hJ, Nat.shiftLeft_eq]
  have hJe : (e - (J : Int)) % 2 = 0 := by omega
  have hl := Nat.log2_self_le hm
  have hJlo : 2 ^ (2 * (f.fractionBits + 2)) ≤ m * 2 ^ J := by
    calc 2 ^ (2 * (f.fractionBits + 2)) ≤ 2 ^ (m.log2 + J) := Nat.pow_le_pow_right (by decide) (by omega)
      _ = 2 ^ m.log2 * 2 ^ J := Nat.pow_add ..
      _ ≤ m * 2 ^ J := Nat.mul_le_mul_right _ hl
  have hs := root_spec (m * 2 ^ J)
  obtain ⟨s, hse⟩ : ∃ s : Nat, s = Datum.rootFrom (m * 2 ^ J) ((m * 2 ^ J).log2 / 2 + 1) 0 := ⟨_, rfl⟩
  rw [← hse] at hs ⊢
  have hlo1 := sqrt_lo hs hJlo
  have hlo2 := sqrt_lo hr hlo
  have hlo3 : 2 ^ (f.fractionBits + 1) ≤ s := Nat.le_trans (Nat.pow_le_pow_right (by decide) (by omega)) hlo1
  simp only [Bool.false_eq_true, if_false, Option.map_some, Option.some.injEq, Format.write]
  rw [nearest_eq]
  congr 1
  have key : rungS f (m * 2 ^ J) s ((e - J) / 2) = rungS f (m * 2 ^ K) r ((e - K) / 2) := by
    rcases Nat.le_total J K with hjk | hjk
    · obtain ⟨c, hc⟩ : ∃ c : Nat, K = J + 2 * c := ⟨(K - J) / 2, by omega⟩
      have e1 : m * 2 ^ K = m * 2 ^ J * (2 ^ c * 2 ^ c) := by rw [hc, Nat.pow_add, Nat.mul_assoc, ← Nat.pow_add 2 c c, show c + c = 2 * c by omega]
      rw [e1] at hr ⊢
      have := rungS_scale f hs hr ((e - J) / 2) hlo3
      rw [show (e - (J : Int)) / 2 - (c : Int) = (e - K) / 2 by omega] at this
      exact this.symm
    · obtain ⟨c, hc⟩ : ∃ c : Nat, J = K + 2 * c := ⟨(J - K) / 2, by omega⟩
      have e1 : m * 2 ^ J = m * 2 ^ K * (2 ^ c * 2 ^ c) := by rw [hc, Nat.pow_add, Nat.mul_assoc, ← Nat.pow_add 2 c c, show c + c = 2 * c by omega]
      rw [e1] at hs ⊢
      have := rungS_scale f hr hs ((e - K) / 2) hlo2
      rw [show (e - (K : Int)) / 2 - (c : Int) = (e - J) / 2 by omega] at this
      exact this
  rw [← key]
  unfold rungS rungR
  congr 2
  by_cases h0 : s * s = m * 2 ^ J
  · simp [h0]
  · simp [h0]


end Go.Proofs.Ytffceodbadedjaa
