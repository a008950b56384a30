/-
  FPartsMath, FQuoMath, FOpMath, FWholeMath, FOrderM, FWiden, FVal, FRSign: merged (each text says what it holds where it lies in wip). No condition.
-/
import Derived.Test.YtlhakbkdlgejpaaGreatDoorF06
import Derived.Test.YtlhakbkdlgejpaaGreatDoorF05
import Derived.Test.YtlhakbkdlgejpaaGreatDoorF01
import Derived.Test.YtlhakbkdlgejpaaGreatDoorF04
set_option linter.unusedSimpArgs false
set_option linter.unusedVariables false
set_option maxRecDepth 100000
namespace Go.Proofs.YtlhakbkdlgejpaaGreatDoor.Fl
open Ieee

theorem pe_eq (P : Nat) (low : Int) (s : Nat) : pe P low s = low + ((s / 2 ^ P - 1 : Nat) : Int) := by
  unfold pe; split
  · rename_i h; rw [h]; simp
  · rfl

theorem pm_lt (P s : Nat) : pm P s < 2 ^ (P + 1) := by
  have hp : 0 < 2 ^ P := Nat.two_pow_pos P
  have hm := Nat.mod_lt s hp
  have e : (2 : Nat) ^ (P + 1) = 2 * 2 ^ P := by rw [Nat.pow_succ]; omega
  have hdm := Nat.div_add_mod s (2 ^ P)
  unfold pm; split
  · rename_i h; rw [h] at hdm; simp at hdm; omega
  · omega

theorem pm_ge (P s : Nat) (h : s / 2 ^ P ≠ 0) : 2 ^ P ≤ pm P s := by
  unfold pm; rw [if_neg h]; omega

theorem pm_small (P s : Nat) (h : s / 2 ^ P ≤ 1) : pm P s = s := by
  have hdm := Nat.div_add_mod s (2 ^ P)
  unfold pm; split
  · rfl
  · rename_i h0
    have h1 : s / 2 ^ P = 1 := by generalize s / 2 ^ P = q at *; omega
    rw [h1] at hdm; omega

/-- How far apart the places of two floats are. -/
theorem parts_ord (P : Nat) (low : Int) {s1 s2 : Nat} (h : s2 ≤ s1) :
    ∃ ap : Nat, pe P low s2 + ap = pe P low s1 ∧ pm P s2 ≤ pm P s1 * 2 ^ ap ∧ (ap ≠ 0 → 2 ^ P ≤ pm P s1) ∧ ap ≤ s1 / 2 ^ P := by
  have hp : 0 < 2 ^ P := Nat.two_pow_pos P
  have hq : s2 / 2 ^ P ≤ s1 / 2 ^ P := Nat.div_le_div_right h
  refine ⟨(s1 / 2 ^ P - 1) - (s2 / 2 ^ P - 1), by rw [pe_eq, pe_eq]; generalize s1 / 2 ^ P = q1 at *; generalize s2 / 2 ^ P = q2 at *; omega, ?_, fun h0 => pm_ge P s1 (by generalize s1 / 2 ^ P = q1 at *; omega), by generalize s1 / 2 ^ P = q1 at *; omega⟩
  by_cases h0 : (s1 / 2 ^ P - 1) - (s2 / 2 ^ P - 1) = 0
  · rw [h0, Nat.pow_zero, Nat.mul_one]
    by_cases h1 : s1 / 2 ^ P ≤ 1
    · rw [pm_small P s1 h1, pm_small P s2 (Nat.le_trans hq h1)]; exact h
    · have he : s2 / 2 ^ P = s1 / 2 ^ P := by generalize s1 / 2 ^ P = q1 at *; generalize s2 / 2 ^ P = q2 at *; omega
      have d1 := Nat.div_add_mod s1 (2 ^ P)
      have d2 := Nat.div_add_mod s2 (2 ^ P)
      rw [he] at d2
      have h2 : ¬ s1 / 2 ^ P = 0 := fun h => h1 (by rw [h]; decide)
      unfold pm
      rw [if_neg h2, if_neg (by rw [he]; exact h2)]
      omega
  · have h1 := pm_ge P s1 (by generalize s1 / 2 ^ P = q1 at *; omega)
    have h2 := pm_lt P s2
    have e : (2 : Nat) ^ (P + 1) = 2 ^ P * 2 ^ 1 := Nat.pow_add ..
    have h3 : 2 ^ P * 2 ^ 1 ≤ pm P s1 * 2 ^ ((s1 / 2 ^ P - 1) - (s2 / 2 ^ P - 1)) := Nat.mul_le_mul h1 (Nat.pow_le_pow_right (by decide) (by omega))
    omega

/-- What a finite word stands for. -/
theorem read_fin {f : Format} {a SB P : Nat} {low : Int} (hSB : f.signWeight = SB) (hP : f.fractionBits = P) (hlow : f.leastPlace = low) (ha : a < 2 * SB) (h : a % SB < f.infRung) :
    f.read a = .number (decide (SB ≤ a)) (pm P (a % SB)) (pe P low (a % SB)) := by
  subst hSB hP hlow
  have hp : 0 < 2 ^ f.fractionBits := Nat.two_pow_pos _
  have hsg : (a / f.signWeight % 2 == 1) = decide (f.signWeight ≤ a) := by
    by_cases hc : f.signWeight ≤ a
    · have : a / f.signWeight = 1 := by rw [Nat.div_eq_iff (by omega)]; omega
      simp [this, hc]
    · have : a / f.signWeight = 0 := Nat.div_eq_of_lt (by omega)
      simp [this, hc]
  unfold Format.read
  simp only [hsg]
  by_cases hb : a % f.signWeight < f.binade
  · rw [if_pos hb]
    have h0 : a % f.signWeight / 2 ^ f.fractionBits = 0 := Nat.div_eq_of_lt hb
    unfold pm pe; rw [if_pos h0, if_pos h0]
  · rw [if_neg hb, if_pos h]
    have h0 : ¬ a % f.signWeight / 2 ^ f.fractionBits = 0 := by
      intro h0
      rcases Nat.lt_or_ge (a % f.signWeight) (2 ^ f.fractionBits) with h2 | h2
      · exact hb h2
      · have := Nat.div_pos h2 hp; omega
    unfold pm pe; rw [if_neg h0, if_neg h0, Nat.add_comm]; rfl

theorem read_inf {f : Format} {a SB : Nat} (hSB : f.signWeight = SB) (ha : a < 2 * SB) (hb : f.binade ≤ f.infRung) (h : a % SB = f.infRung) :
    f.read a = .infinity (decide (SB ≤ a)) := by
  subst hSB
  have hsg : (a / f.signWeight % 2 == 1) = decide (f.signWeight ≤ a) := by
    by_cases hc : f.signWeight ≤ a
    · have : a / f.signWeight = 1 := by rw [Nat.div_eq_iff (by omega)]; omega
      simp [this, hc]
    · have : a / f.signWeight = 0 := Nat.div_eq_of_lt (by omega)
      simp [this, hc]
  unfold Format.read
  simp only [hsg]
  rw [if_neg (by omega), if_neg (by omega), if_pos h]

theorem read_nan {f : Format} {a SB : Nat} (hSB : f.signWeight = SB) (hb : f.binade ≤ f.infRung) (h : f.infRung < a % SB) :
    ∃ s t, f.read a = .nan s t := by
  subst hSB
  unfold Format.read
  simp only []
  rw [if_neg (by omega), if_neg (by omega), if_neg (by omega)]
  exact ⟨_, _, rfl⟩

end Go.Proofs.YtlhakbkdlgejpaaGreatDoor.Fl
namespace Go.Proofs.YtlhakbkdlgejpaaGreatDoor.Fl
open Ieee

/-- A quotient, rounded. -/
def rungD (f : Format) (A B : Nat) (e : Int) : Nat := rungR f (A / B) e (decide (A % B ≠ 0))

theorem rungD_mul (f : Format) (A B c : Nat) (hc : 0 < c) (e : Int) : rungD f (A * c) (B * c) e = rungD f A B e := by
  unfold rungD
  rw [Nat.mul_div_mul_right _ _ hc, Nat.mul_mod_mul_right]
  congr 1
  apply decide_eq_decide.2
  constructor
  · intro h h2; exact h (by rw [h2, Nat.zero_mul])
  · intro h h2
    rcases Nat.mul_eq_zero.1 h2 with h3 | h3
    · exact h h3
    · omega

theorem rungD_scale (f : Format) (A B k : Nat) (hB : 0 < B) (e : Int) (h : 2 ^ (f.fractionBits + 1) ≤ A / B) : rungD f (A * 2 ^ k) B (e - k) = rungD f A B e := by
  unfold rungD rungR
  have hk : 0 < 2 ^ k := Nat.two_pow_pos k
  have hk1 : (2 : Nat) ^ (k + 1) = 2 * 2 ^ k := by rw [Nat.pow_succ]; omega
  obtain ⟨Q, hQ⟩ : ∃ Q, Q = A * 2 ^ k / B := ⟨_, rfl⟩
  obtain ⟨r, hr⟩ : ∃ r, r = A * 2 ^ k % B := ⟨_, rfl⟩
  rw [← hQ, ← hr]
  have hdm := Nat.div_add_mod (A * 2 ^ k) B
  rw [← hQ, ← hr] at hdm
  have hrl : r < B := by rw [hr]; exact Nat.mod_lt _ hB
  have hq : Q / 2 ^ k = A / B := by rw [hQ, Nat.div_div_eq_div_mul, Nat.mul_comm B, Nat.mul_comm A, Nat.mul_div_mul_left _ _ hk]
  have hMd : (2 * Q + (decide (r ≠ 0)).toNat) / 2 ^ (k + 1) = A / B := by
    have hb := Bool.toNat_le (decide (r ≠ 0))
    rw [hk1, ← Nat.div_div_eq_div_mul, show (2 * Q + (decide (r ≠ 0)).toNat) / 2 = Q by omega, hq]
  have hMm : (2 * Q + (decide (r ≠ 0)).toNat) % 2 ^ (k + 1) = 0 ↔ A % B = 0 := by
    have hb := Bool.toNat_le (decide (r ≠ 0))
    have hAB := Nat.div_add_mod A B
    have hQm := Nat.div_add_mod Q (2 ^ k)
    rw [hq] at hQm
    constructor
    · intro h0
      have hdvd : 2 ^ (k + 1) ∣ 2 * Q + (decide (r ≠ 0)).toNat := Nat.dvd_of_mod_eq_zero h0
      have hr0 : r = 0 := by
        have h2 : (2 * Q + (decide (r ≠ 0)).toNat) % 2 = 0 := Nat.mod_eq_zero_of_dvd (Nat.dvd_trans ⟨2 ^ k, hk1⟩ hdvd)
        by_cases hr0 : r = 0
        · exact hr0
        · have : (decide (r ≠ 0)).toNat = 1 := by simp [hr0]
          omega
      have hQd : Q % 2 ^ k = 0 := by
        rw [hr0] at hdvd
        have : 2 * 2 ^ k ∣ 2 * Q := by rw [← hk1]; simpa using hdvd
        exact Nat.mod_eq_zero_of_dvd (Nat.dvd_of_mul_dvd_mul_left (by decide) this)
      rw [hQd] at hQm
      rw [hr0] at hdm
      -- A * 2^k = B * Q = B * (2^k * (A/B))
      have h3 : A * 2 ^ k = B * (A / B) * 2 ^ k := by
        rw [← Nat.add_zero (A * 2 ^ k), ← hdm, ← hQm]
        simp only [Nat.add_zero]
        rw [Nat.mul_comm (2 ^ k) (A / B), Nat.mul_assoc]
      have h4 := Nat.eq_of_mul_eq_mul_right hk h3
      omega
    · intro h0
      have h1 : A = B * (A / B) := by omega
      have h2 : A * 2 ^ k = B * (A / B * 2 ^ k) := by rw [← Nat.mul_assoc, ← h1]
      have hr0 : r = 0 := by rw [hr, h2, Nat.mul_mod_right]
      have hQe : Q = A / B * 2 ^ k := by rw [hQ, h2, Nat.mul_div_cancel_left _ hB]
      rw [hr0, hQe, hk1]
      simp only [ne_eq, not_true_eq_false, decide_false, Bool.toNat_false, Nat.add_zero]
      rw [show 2 * (A / B * 2 ^ k) = A / B * (2 * 2 ^ k) by rw [← Nat.mul_assoc, ← Nat.mul_assoc, Nat.mul_comm 2]]
      exact Nat.mul_mod_left _ _
  have := rungOf_jam f (2 * Q + (decide (r ≠ 0)).toNat) (k + 1) (e - k - 1) (by rw [hMd]; exact h)
  rw [← this]
  unfold jam
  rw [hMd]
  congr 1
  · congr 1
    by_cases h0 : A % B = 0
    · rw [if_pos (hMm.2 h0)]; simp [h0]
    · rw [if_neg (fun h => h0 (hMm.1 h))]; simp [h0]
  · omega

theorem rungD_pow (f : Format) (A B : Nat) (hB : 0 < B) (E : Int) (K1 K2 : Nat) (h1 : 2 ^ (f.fractionBits + 1) ≤ A * 2 ^ K1 / B) (h2 : 2 ^ (f.fractionBits + 1) ≤ A * 2 ^ K2 / B) :
    rungD f (A * 2 ^ K1) B (E - K1) = rungD f (A * 2 ^ K2) B (E - K2) := by
  rcases Nat.le_total K1 K2 with h | h
  · have := rungD_scale f (A * 2 ^ K1) B (K2 - K1) hB (E - K1) h1
    rw [Nat.mul_assoc, ← Nat.pow_add, show K1 + (K2 - K1) = K2 by omega, show E - (K1 : Int) - ((K2 - K1 : Nat) : Int) = E - K2 by omega] at this
    exact this.symm
  · have := rungD_scale f (A * 2 ^ K2) B (K1 - K2) hB (E - K2) h2
    rw [Nat.mul_assoc, ← Nat.pow_add, show K2 + (K1 - K2) = K1 by omega, show E - (K2 : Int) - ((K1 - K2 : Nat) : Int) = E - K1 by omega] at this
    exact this

/-- The quotient of two numbers that are not 0. -/
theorem quo_math {f : Format} (hP : f.fractionBits ≤ 52) (sx sy : Bool) {m1 m2 j1 j2 : Nat} (e1 e2 : Int) (h1 : m1 ≠ 0) (h2 : m2 ≠ 0)
    (hm1 : m1 < 2 ^ (f.fractionBits + 1)) (hX : 9223372036854775808 ≤ m1 * 2 ^ j1) (hX2 : m1 * 2 ^ j1 < 18446744073709551616) (hY : 9223372036854775808 ≤ m2 * 2 ^ j2) (hY2 : m2 * 2 ^ j2 < 18446744073709551616) (hj2 : j2 ≤ 63) (hm2 : m2 < 2 ^ (f.fractionBits + 1)) :
    (Datum.quotient (f.fractionBits + 2) (.number sx m1 e1) (.number sy m2 e2)).map f.write =
      some (f.word (sx ^^ sy) (rungD f (2 ^ 62 * (m1 * 2 ^ j1 / 2)) (2 * (m2 * 2 ^ j2 / 2)) (e1 - j1 - (e2 - j2) - 61))) := by
  simp only [Datum.quotient, if_neg h2, Option.map_some, Option.some.injEq, Format.write]
  rw [nearest_eq]
  congr 1
  have h2p : 0 < m2 := by omega
  obtain ⟨mo, hmo⟩ : ∃ mo, mo = f.fractionBits + 2 + m2.log2 - m1.log2 := ⟨_, rfl⟩
  rw [← hmo, Nat.shiftLeft_eq]
  have hl1 := Nat.log2_self_le h1
  have hl2 := @Nat.lt_log2_self m2
  have q2 : 2 ^ (f.fractionBits + 1) ≤ m1 * 2 ^ mo / m2 := by
    rw [Nat.le_div_iff_mul_le h2p]
    calc 2 ^ (f.fractionBits + 1) * m2 ≤ 2 ^ (f.fractionBits + 1) * 2 ^ (m2.log2 + 1) := Nat.mul_le_mul_left _ (by omega)
      _ = 2 ^ (f.fractionBits + 1 + (m2.log2 + 1)) := by rw [← Nat.pow_add]
      _ ≤ 2 ^ (m1.log2 + mo) := Nat.pow_le_pow_right (by decide) (by omega)
      _ = 2 ^ m1.log2 * 2 ^ mo := Nat.pow_add ..
      _ ≤ m1 * 2 ^ mo := Nat.mul_le_mul_right _ hl1
  have hpow : ∀ {m j : Nat}, m < 2 ^ (f.fractionBits + 1) → 9223372036854775808 ≤ m * 2 ^ j → 11 ≤ j := fun {m j} hm hj => by
    rcases Nat.lt_or_ge j 11 with h | h
    · exfalso
      have a1 : (2 : Nat) ^ j ≤ 2 ^ 10 := Nat.pow_le_pow_right (by decide) (by omega)
      have a2 : (2 : Nat) ^ (f.fractionBits + 1) ≤ 2 ^ 53 := Nat.pow_le_pow_right (by decide) (by omega)
      have a3 : m * 2 ^ j < 2 ^ 53 * 2 ^ 10 := Nat.lt_of_lt_of_le (Nat.mul_lt_mul_of_pos_right (Nat.lt_of_lt_of_le hm a2) (Nat.two_pow_pos j)) (Nat.mul_le_mul_left _ a1)
      have a4 : (2 : Nat) ^ 53 * 2 ^ 10 = 9223372036854775808 := by decide
      omega
    · exact h
  have hj1 := hpow hm1 hX
  have hj2b := hpow hm2 hY
  have half : ∀ {m j : Nat}, 1 ≤ j → 2 * (m * 2 ^ j / 2) = m * 2 ^ j := fun {m j} h => by
    obtain ⟨i, rfl⟩ : ∃ i, j = i + 1 := ⟨j - 1, by omega⟩
    rw [Nat.pow_succ, ← Nat.mul_assoc, Nat.mul_div_cancel _ (by decide), Nat.mul_comm]
  have hA : 2 ^ 62 * (m1 * 2 ^ j1 / 2) = m1 * 2 ^ (61 + j1) := by
    have := half (m := m1) (j := j1) (by omega)
    rw [show (2 : Nat) ^ 62 = 2 ^ 61 * 2 by decide, Nat.mul_assoc, this, Nat.pow_add, ← Nat.mul_assoc, ← Nat.mul_assoc, Nat.mul_comm (2 ^ 61) m1]
  rw [hA, half (m := m2) (j := j2) (by omega)]
  have hsplit : m1 * 2 ^ (61 + j1) = m1 * 2 ^ (61 + j1 - j2) * 2 ^ j2 := by rw [Nat.mul_assoc, ← Nat.pow_add]; congr 2; omega
  rw [hsplit, rungD_mul f _ _ _ (Nat.two_pow_pos j2)]
  have q1 : 2 ^ (f.fractionBits + 1) ≤ m1 * 2 ^ (61 + j1 - j2) / m2 := by
    have a2 : (2 : Nat) ^ (f.fractionBits + 1) ≤ 2 ^ 53 := Nat.pow_le_pow_right (by decide) (by omega)
    refine Nat.le_trans a2 ?_
    rw [Nat.le_div_iff_mul_le h2p]
    have hp := Nat.two_pow_pos j2
    apply Nat.le_of_mul_le_mul_right _ hp
    rw [← hsplit, Nat.mul_assoc, Nat.pow_add, show m1 * (2 ^ 61 * 2 ^ j1) = 2 ^ 61 * (m1 * 2 ^ j1) by rw [← Nat.mul_assoc, ← Nat.mul_assoc, Nat.mul_comm m1]]
    calc 2 ^ 53 * (m2 * 2 ^ j2) ≤ 2 ^ 53 * 18446744073709551616 := Nat.mul_le_mul_left _ (by omega)
      _ ≤ 2 ^ 61 * 9223372036854775808 := by decide
      _ ≤ 2 ^ 61 * (m1 * 2 ^ j1) := Nat.mul_le_mul_left _ hX
  have key := rungD_pow f m1 m2 h2p (e1 - e2) mo (61 + j1 - j2) q2 q1
  rw [show e1 - (j1 : Int) - (e2 - (j2 : Int)) - 61 = e1 - e2 - ((61 + j1 - j2 : Nat) : Int) by omega, ← key]
  unfold rungD rungR
  congr 2
  by_cases h0 : m1 * 2 ^ mo % m2 = 0
  · simp [h0]
  · simp [h0]

end Go.Proofs.YtlhakbkdlgejpaaGreatDoor.Fl
namespace Go.Proofs.YtlhakbkdlgejpaaGreatDoor.Fl
open Ieee

/-- A format's numbers. -/
structure Fmt (f : Format) (SB INF P : Nat) (low : Int) : Prop where
  sb : f.signWeight = SB
  inf : f.infRung = INF
  fr : f.fractionBits = P
  lp : f.leastPlace = low
  bi : f.binade ≤ f.infRung
  p52 : P ≤ 52
  inf0 : 0 < INF

theorem fmt_single : Fmt single 2147483648 2139095040 23 (-149) := ⟨rfl, rfl, rfl, rfl, by decide, by decide, by decide⟩
theorem fmt_double : Fmt double 9223372036854775808 9218868437227405312 52 (-1074) := ⟨rfl, rfl, rfl, rfl, by decide, by decide, by decide⟩

theorem kind1 {INF s : Nat} : kindOf INF s = 1 ↔ s = 0 := by
  unfold kindOf; split
  · simp [*]
  · split
    · simp [*]
    · split
      · simp; omega
      · simp [*]
theorem kind3 {INF s : Nat} (h0 : 0 < INF) : kindOf INF s = 3 ↔ s = INF := by
  unfold kindOf; split
  · simp; omega
  · split
    · simp; omega
    · split <;> simp [*]
theorem kind2 {INF s : Nat} : kindOf INF s = 2 ↔ s ≠ 0 ∧ s < INF := by
  unfold kindOf; split
  · simp [*]
  · split
    · simp [*]
    · split
      · simp; omega
      · simp; omega
theorem kind_le {INF s : Nat} (h : s ≤ INF) : kindOf INF s = 1 ∨ kindOf INF s = 2 ∨ kindOf INF s = 3 := by
  unfold kindOf; split
  · exact .inl rfl
  · split
    · exact .inr (.inl rfl)
    · rw [if_pos (by omega)]; exact .inr (.inr rfl)

section
variable {f : Format} {SB INF P : Nat} {low : Int} (F : Fmt f SB INF P low) {a b : Nat}
include F

theorem rk1 (ha : a < 2 * SB) (h : kindOf INF (a % SB) = 1) : f.read a = .number (decide (SB ≤ a)) 0 (pe P low (a % SB)) := by
  have h0 := kind1.1 h
  rw [read_fin F.sb F.fr F.lp ha (by rw [F.inf, h0]; exact F.inf0)]
  have : pm P (a % SB) = 0 := by rw [h0]; unfold pm; simp
  rw [this]

theorem rk2 (ha : a < 2 * SB) (h : kindOf INF (a % SB) = 2) : f.read a = .number (decide (SB ≤ a)) (pm P (a % SB)) (pe P low (a % SB)) ∧ pm P (a % SB) ≠ 0 := by
  have h0 := kind2.1 h
  refine ⟨read_fin F.sb F.fr F.lp ha (by rw [F.inf]; exact h0.2), ?_⟩
  unfold pm; split
  · exact h0.1
  · have := Nat.two_pow_pos P; omega

theorem rk3 (ha : a < 2 * SB) (h : kindOf INF (a % SB) = 3) : f.read a = .infinity (decide (SB ≤ a)) :=
  read_inf F.sb ha F.bi (by rw [F.inf]; exact (kind3 F.inf0).1 h)

theorem div_can (ha : a < 2 * SB) (hb : b < 2 * SB) (h : kindOf INF (a % SB) = 1 ∧ kindOf INF (b % SB) = 1 ∨ kindOf INF (a % SB) = 3 ∧ kindOf INF (b % SB) = 3) : f.div a b = none := by
  unfold Format.div
  rcases h with ⟨h1, h2⟩ | ⟨h1, h2⟩
  · rw [rk1 F ha h1, rk1 F hb h2]; rfl
  · rw [rk3 F ha h1, rk3 F hb h2]; rfl

theorem div_inf (ha : a < 2 * SB) (hb : b < 2 * SB) (h : kindOf INF (a % SB) = 3 ∧ (kindOf INF (b % SB) = 1 ∨ kindOf INF (b % SB) = 2) ∨ kindOf INF (a % SB) = 2 ∧ kindOf INF (b % SB) = 1) :
    f.div a b = some (f.word (decide (SB ≤ a) ^^ decide (SB ≤ b)) INF) := by
  unfold Format.div
  rw [← F.inf]
  rcases h with ⟨h1, h2 | h2⟩ | ⟨h1, h2⟩
  · rw [rk3 F ha h1, rk1 F hb h2]; rfl
  · rw [rk3 F ha h1, (rk2 F hb h2).1]; rfl
  · have h3 := rk2 F ha h1
    rw [h3.1, rk1 F hb h2]
    simp only [Datum.quotient, if_true, if_neg h3.2]; rfl

theorem div_zero (ha : a < 2 * SB) (hb : b < 2 * SB) (h : kindOf INF (a % SB) = 1 ∧ (kindOf INF (b % SB) = 2 ∨ kindOf INF (b % SB) = 3) ∨ kindOf INF (a % SB) = 2 ∧ kindOf INF (b % SB) = 3) :
    f.div a b = some (f.word (decide (SB ≤ a) ^^ decide (SB ≤ b)) 0) := by
  unfold Format.div
  rcases h with ⟨h1, h2 | h2⟩ | ⟨h1, h2⟩
  · have h3 := rk2 F hb h2
    rw [rk1 F ha h1, h3.1]
    simp only [Datum.quotient, if_neg h3.2, Nat.zero_shiftLeft, Nat.zero_div, Nat.zero_mod, Option.map_some, Format.write]
    rw [nearest_eq]; rfl
  · rw [rk1 F ha h1, rk3 F hb h2]
    simp only [Datum.quotient, Option.map_some, Format.write]
    rw [nearest_eq]; rfl
  · rw [(rk2 F ha h1).1, rk3 F hb h2]
    simp only [Datum.quotient, Option.map_some, Format.write]
    rw [nearest_eq]; rfl

theorem div_fin (ha : a < 2 * SB) (hb : b < 2 * SB) (h1 : kindOf INF (a % SB) = 2) (h2 : kindOf INF (b % SB) = 2) {j1 j2 : Nat}
    (hX : 9223372036854775808 ≤ pm P (a % SB) * 2 ^ j1) (hX2 : pm P (a % SB) * 2 ^ j1 < 18446744073709551616) (hY : 9223372036854775808 ≤ pm P (b % SB) * 2 ^ j2) (hY2 : pm P (b % SB) * 2 ^ j2 < 18446744073709551616) (hj2 : j2 ≤ 63) :
    f.div a b = some (f.word (decide (SB ≤ a) ^^ decide (SB ≤ b)) (rungD f (2 ^ 62 * (pm P (a % SB) * 2 ^ j1 / 2)) (2 * (pm P (b % SB) * 2 ^ j2 / 2)) (pe P low (a % SB) - j1 - (pe P low (b % SB) - j2) - 61))) := by
  have h3 := rk2 F ha h1
  have h4 := rk2 F hb h2
  unfold Format.div
  rw [h3.1, h4.1]
  exact quo_math (by rw [F.fr]; exact F.p52) _ _ _ _ h3.2 h4.2 (by rw [F.fr]; exact pm_lt _ _) hX hX2 hY hY2 hj2 (by rw [F.fr]; exact pm_lt _ _)

theorem mul_can (ha : a < 2 * SB) (hb : b < 2 * SB) (h : kindOf INF (a % SB) = 1 ∧ kindOf INF (b % SB) = 3 ∨ kindOf INF (a % SB) = 3 ∧ kindOf INF (b % SB) = 1) : f.mul a b = none := by
  unfold Format.mul
  rcases h with ⟨h1, h2⟩ | ⟨h1, h2⟩
  · rw [rk1 F ha h1, rk3 F hb h2]; rfl
  · rw [rk3 F ha h1, rk1 F hb h2]; rfl

theorem mul_inf (ha : a < 2 * SB) (hb : b < 2 * SB) (h : kindOf INF (a % SB) = 3 ∧ (kindOf INF (b % SB) = 3 ∨ kindOf INF (b % SB) = 2) ∨ kindOf INF (a % SB) = 2 ∧ kindOf INF (b % SB) = 3) :
    f.mul a b = some (f.word (decide (SB ≤ a) ^^ decide (SB ≤ b)) INF) := by
  unfold Format.mul
  rw [← F.inf]
  rcases h with ⟨h1, h2 | h2⟩ | ⟨h1, h2⟩
  · rw [rk3 F ha h1, rk3 F hb h2]; rfl
  · have h3 := rk2 F hb h2
    rw [rk3 F ha h1, h3.1]
    simp only [Datum.product, if_neg h3.2]; rfl
  · have h3 := rk2 F ha h1
    rw [h3.1, rk3 F hb h2]
    simp only [Datum.product, if_neg h3.2]
    rw [Bool.xor_comm]; rfl

theorem mul_fin (ha : a < 2 * SB) (hb : b < 2 * SB) (h1 : kindOf INF (a % SB) = 1 ∨ kindOf INF (a % SB) = 2) (h2 : kindOf INF (b % SB) = 1 ∨ kindOf INF (b % SB) = 2) :
    f.mul a b = some (f.word (decide (SB ≤ a) ^^ decide (SB ≤ b)) (rungOf f (pm P (a % SB) * pm P (b % SB)) (pe P low (a % SB) + pe P low (b % SB)))) := by
  have hfin : ∀ c, (kindOf INF c = 1 ∨ kindOf INF c = 2) → c < INF := fun c h => by
    rcases h with h | h
    · rw [kind1.1 h]; exact F.inf0
    · exact (kind2.1 h).2
  unfold Format.mul
  rw [read_fin F.sb F.fr F.lp ha (by rw [F.inf]; exact hfin _ h1), read_fin F.sb F.fr F.lp hb (by rw [F.inf]; exact hfin _ h2)]
  simp only [Datum.product, Option.map_some, Format.write]
  rw [nearest_eq]
end

/-- The sign of two words held against each other. -/
theorem xor_top {k a b : Nat} (ha : a < 2 * 2 ^ k) (hb : b < 2 * 2 ^ k) : decide (2 ^ k ≤ a ^^^ b) = (decide (2 ^ k ≤ a) ^^ decide (2 ^ k ≤ b)) ∧ a ^^^ b < 2 * 2 ^ k := by
  have top : ∀ x, x < 2 * 2 ^ k → x.testBit k = decide (2 ^ k ≤ x) := fun x hx => by
    have hp : 0 < 2 ^ k := Nat.two_pow_pos k
    rw [Nat.testBit_eq_decide_div_mod_eq]
    by_cases hc : 2 ^ k ≤ x
    · have : x / 2 ^ k = 1 := by rw [Nat.div_eq_iff hp]; omega
      simp [this, hc]
    · have : x / 2 ^ k = 0 := Nat.div_eq_of_lt (by omega)
      simp [this, hc]
  have e : 2 * 2 ^ k = 2 ^ (k + 1) := by rw [Nat.pow_succ]; omega
  have hx : a ^^^ b < 2 * 2 ^ k := by rw [e] at ha hb ⊢; exact Nat.xor_lt_two_pow ha hb
  exact ⟨by rw [← top _ hx, ← top a ha, ← top b hb, Nat.testBit_xor], hx⟩

end Go.Proofs.YtlhakbkdlgejpaaGreatDoor.Fl
namespace Go.Proofs.YtlhakbkdlgejpaaGreatDoor.Fl
open Ieee

/-- Whether one is added where n is cut by d digits. -/
def cutUp (way : Toward) (neg : Bool) (n d : Nat) : Bool :=
  match way with
  | .even => decide (2 ^ d < 2 * (n % 2 ^ d)) || (2 ^ d == 2 * (n % 2 ^ d) && n / 2 ^ d % 2 == 1)
  | .down => neg && n % 2 ^ d != 0
  | .up => !neg && n % 2 ^ d != 0
  | .zero => false

theorem cut_plain (way : Toward) (neg : Bool) (n d : Nat) : way.cut neg n d = n / 2 ^ d + (cutUp way neg n d).toNat := by
  by_cases h : d ≤ n.log2 + 2
  · unfold Toward.cut cutUp
    simp only [Nat.one_shiftLeft]
    rw [Nat.min_eq_left h]
    cases way <;> rfl
  · have hn := @Nat.lt_log2_self n
    have e : (2 : Nat) ^ (n.log2 + 2) = 2 * 2 ^ (n.log2 + 1) := by rw [show n.log2 + 2 = (n.log2 + 1) + 1 by omega, Nat.pow_succ]; omega
    have hle : (2 : Nat) ^ (n.log2 + 2) ≤ 2 ^ d := Nat.pow_le_pow_right (by omega) (by omega)
    have d1 : n / 2 ^ d = 0 := Nat.div_eq_of_lt (by omega)
    have m1 : n % 2 ^ d = n := Nat.mod_eq_of_lt (by omega)
    have d2 : n / 2 ^ (n.log2 + 2) = 0 := Nat.div_eq_of_lt (by omega)
    have m2 : n % 2 ^ (n.log2 + 2) = n := Nat.mod_eq_of_lt (by omega)
    unfold Toward.cut cutUp
    simp only [Nat.one_shiftLeft]
    rw [Nat.min_eq_right (by omega), d1, m1, d2, m2]
    cases way
    · have e1 : decide (2 ^ d < 2 * n) = false := by simp; omega
      have e2 : (2 ^ d == 2 * n) = false := by simp; omega
      have e3 : decide (2 ^ (n.log2 + 2) < 2 * n) = false := by simp; omega
      have e4 : (2 ^ (n.log2 + 2) == 2 * n) = false := by simp; omega
      simp only [e1, e2, e3, e4]
    · rfl
    · rfl
    · rfl

/-- Behind 63 places nothing of a number below 2^62 is left, and less than a half. -/
theorem cutUp_far (way : Toward) (neg : Bool) (n d : Nat) (hn : n < 4611686018427387904) (hd : 63 ≤ d) : n / 2 ^ d = n / 2 ^ 63 ∧ cutUp way neg n d = cutUp way neg n 63 := by
  have hle : (2 : Nat) ^ 63 ≤ 2 ^ d := Nat.pow_le_pow_right (by omega) hd
  have h63 : (2 : Nat) ^ 63 = 9223372036854775808 := by decide
  have d1 : n / 2 ^ d = 0 := Nat.div_eq_of_lt (by omega)
  have m1 : n % 2 ^ d = n := Nat.mod_eq_of_lt (by omega)
  have d2 : n / 2 ^ 63 = 0 := Nat.div_eq_of_lt (by omega)
  have m2 : n % 2 ^ 63 = n := Nat.mod_eq_of_lt (by omega)
  refine ⟨by rw [d1, d2], ?_⟩
  unfold cutUp
  rw [d1, m1, d2, m2]
  cases way
  · have e1 : decide (2 ^ d < 2 * n) = false := by simp; omega
    have e2 : (2 ^ d == 2 * n) = false := by simp; omega
    have e3 : decide (2 ^ 63 < 2 * n) = false := by simp; omega
    have e4 : (2 ^ 63 == 2 * n) = false := by simp; omega
    simp only [e1, e2, e3, e4]
  · rfl
  · rfl
  · rfl

/-- The way of an operation. -/
def wayOf (op : Nat) : Toward := if op = 4 then .up else if op = 5 then .down else if op = 6 then .zero else .even

section
variable {f : Format} {SB INF P : Nat} {low : Int} (F : Fmt f SB INF P low) {a : Nat}
include F

theorem rungOf_parts {s : Nat} (hs : s < INF) : rungOf f (pm P s) (pe P low s) = s := by
  have hp : 0 < 2 ^ P := Nat.two_pow_pos P
  have hi := F.inf
  have hdm := Nat.div_add_mod s (2 ^ P)
  have hml := Nat.mod_lt s hp
  by_cases hq : s / 2 ^ P = 0
  · have e1 : pm P s = s := by unfold pm; rw [if_pos hq]
    have e2 : pe P low s = low := by unfold pe; rw [if_pos hq]
    rw [e1, e2]
    by_cases h0 : s = 0
    · subst h0; rfl
    · have hsp : s < 2 ^ P := by
        rcases Nat.lt_or_ge s (2 ^ P) with h | h
        · exact h
        · have := Nat.div_pos h hp; omega
      have hlog : s.log2 < P := log2_lt_of h0 hsp
      have hL : lastP f s low = low := by
        unfold lastP; rw [F.fr, F.lp]; omega
      unfold rungOf
      rw [if_neg h0, hL, F.lp, F.inf]
      unfold rneI
      rw [show low - low = 0 by omega, if_pos (by omega)]
      simp [rne_zero]
      omega
  · have e1 : pm P s = s % 2 ^ P + 2 ^ P := by unfold pm; rw [if_neg hq]
    have e2 := pe_eq P low s
    have hne : pm P s ≠ 0 := by omega
    have hlog : (pm P s).log2 = P := by
      rw [Nat.log2_eq_iff hne, e1]
      have : (2 : Nat) ^ (P + 1) = 2 * 2 ^ P := by rw [Nat.pow_succ]; omega
      omega
    have hL : lastP f (pm P s) (pe P low s) = pe P low s := by
      unfold lastP; rw [F.fr, F.lp, hlog]; omega
    unfold rungOf
    rw [if_neg hne, hL, F.lp, F.inf, F.fr]
    unfold rneI
    rw [show pe P low s - pe P low s = 0 by omega, if_pos (by omega)]
    simp only [Int.toNat_zero, rne_zero]
    rw [show (pe P low s - low).toNat = s / 2 ^ P - 1 by rw [e2]; generalize s / 2 ^ P = q; omega, e1]
    have : (s / 2 ^ P - 1) * 2 ^ P + (s % 2 ^ P + 2 ^ P) = s := by
      obtain ⟨q, hqe⟩ : ∃ q, s / 2 ^ P = q + 1 := ⟨s / 2 ^ P - 1, by generalize s / 2 ^ P = z at *; omega⟩
      rw [hqe] at hdm ⊢
      rw [Nat.mul_add, Nat.mul_one, Nat.mul_comm] at hdm
      rw [show q + 1 - 1 = q by omega]
      omega
    rw [this]
    omega

theorem word_sz (ha : a < 2 * SB) : f.word (decide (SB ≤ a)) (a % SB) = a := by
  unfold Format.word
  rw [F.sb]
  by_cases h : SB ≤ a
  · have : a % SB = a - SB := by rw [Nat.mod_eq_sub_mod h, Nat.mod_eq_of_lt (by omega)]
    simp [h, this]
  · simp [h, Nat.mod_eq_of_lt (show a < SB by omega)]

theorem read_12 (ha : a < 2 * SB) (h : kindOf INF (a % SB) = 1 ∨ kindOf INF (a % SB) = 2) : f.read a = .number (decide (SB ≤ a)) (pm P (a % SB)) (pe P low (a % SB)) ∧ a % SB < INF := by
  have hfin : a % SB < INF := by
    rcases h with h | h
    · rw [kind1.1 h]; exact F.inf0
    · exact (kind2.1 h).2
  exact ⟨read_fin F.sb F.fr F.lp ha (by rw [F.inf]; exact hfin), hfin⟩

theorem whole_inf (ha : a < 2 * SB) (h : kindOf INF (a % SB) = 3) (way : Toward) : f.write ((f.read a).integral way) = a := by
  rw [rk3 F ha h]
  show f.word _ f.infRung = a
  have h3 := (kind3 F.inf0).1 h
  have := word_sz F ha
  rw [h3] at this
  rw [F.inf]; exact this

theorem whole_big (ha : a < 2 * SB) (h : kindOf INF (a % SB) = 1 ∨ kindOf INF (a % SB) = 2) (he : 0 ≤ pe P low (a % SB)) (way : Toward) : f.write ((f.read a).integral way) = a := by
  have h1 := read_12 F ha h
  rw [h1.1]
  simp only [Datum.integral, Format.write]
  rw [nearest_eq, cut_plain, show (-pe P low (a % SB)).toNat = 0 by omega, Nat.shiftLeft_eq]
  have hup : cutUp way (decide (SB ≤ a)) (pm P (a % SB) * 2 ^ (pe P low (a % SB)).toNat) 0 = false := by
    unfold cutUp; cases way <;> simp [Nat.mod_one]
  rw [hup, Nat.pow_zero, Nat.div_one]
  have := rungOf_scale f (pm P (a % SB)) (pe P low (a % SB)) (pe P low (a % SB)).toNat
  rw [show pe P low (a % SB) - ((pe P low (a % SB)).toNat : Int) = 0 by omega] at this
  show f.word _ (rungOf f (pm P (a % SB) * 2 ^ (pe P low (a % SB)).toNat + 0) 0) = a
  rw [Nat.add_zero, this, rungOf_parts F h1.2, word_sz F ha]

theorem whole_small (ha : a < 2 * SB) (h : kindOf INF (a % SB) = 1 ∨ kindOf INF (a % SB) = 2) {K pl : Nat} (hK : pe P low (a % SB) = -(K : Int)) (hpl : pl = min K 63) (way : Toward) :
    f.write ((f.read a).integral way) = f.word (decide (SB ≤ a)) (rungR f (pm P (a % SB) / 2 ^ pl + (cutUp way (decide (SB ≤ a)) (pm P (a % SB)) pl).toNat) 0 false) := by
  have h1 := read_12 F ha h
  rw [h1.1, rungR_false]
  simp only [Datum.integral, Format.write]
  rw [nearest_eq, cut_plain, show (-pe P low (a % SB)).toNat = K by omega, show (pe P low (a % SB)).toNat = 0 by omega]
  simp only [Nat.shiftLeft_zero]
  have hm : pm P (a % SB) < 4611686018427387904 := by
    have h2 := pm_lt P (a % SB)
    have h3 : (2 : Nat) ^ (P + 1) ≤ 2 ^ 53 := Nat.pow_le_pow_right (by decide) (by have := F.p52; omega)
    have h4 : (2 : Nat) ^ 53 = 9007199254740992 := by decide
    omega
  by_cases hc : K ≤ 63
  · rw [show pl = K by omega]
  · have hp : pl = 63 := by omega
    have := cutUp_far way (decide (SB ≤ a)) _ K hm (by omega)
    rw [hp, this.1, this.2]
end

end Go.Proofs.YtlhakbkdlgejpaaGreatDoor.Fl
namespace Go.Proofs.YtlhakbkdlgejpaaGreatDoor.Fl
open Ieee

/-- A number with its sign. -/
def sgn (s : Bool) (x : Nat) : Int := if s then -(x : Int) else (x : Int)

theorem compare_congr {x y x' y' : Int} (h1 : x < y ↔ x' < y') (h2 : x = y ↔ x' = y') : compare x y = compare x' y' := by
  show compareOfLessAndEq x y = compareOfLessAndEq x' y'
  unfold compareOfLessAndEq
  simp only [h1, h2]

theorem cmp_lt {x y : Int} (h : x < y) : compare x y = .lt := by
  show compareOfLessAndEq x y = _
  unfold compareOfLessAndEq; rw [if_pos h]
theorem cmp_eq {x y : Int} (h : x = y) : compare x y = .eq := by
  show compareOfLessAndEq x y = _
  unfold compareOfLessAndEq; rw [if_neg (by omega), if_pos h]
theorem cmp_gt {x y : Int} (h : y < x) : compare x y = .gt := by
  show compareOfLessAndEq x y = _
  unfold compareOfLessAndEq; rw [if_neg (by omega), if_neg (by omega)]

theorem order_num (s t : Bool) (m n : Nat) (i j L : Int) (h1 : L ≤ i) (h2 : L ≤ j) :
    Datum.order (.number s m i) (.number t n j) = some (compare (sgn s (m * 2 ^ (i - L).toNat)) (sgn t (n * 2 ^ (j - L).toNat))) := by
  simp only [Datum.order]
  congr 1
  obtain ⟨c, hc⟩ : ∃ c : Nat, c = (min i j - L).toNat := ⟨_, rfl⟩
  have e1 : (i - L).toNat = (i - min i j).toNat + c := by omega
  have e2 : (j - L).toNat = (j - min i j).toNat + c := by omega
  have hp : (0 : Int) < ((2 ^ c : Nat) : Int) := by have := Nat.two_pow_pos c; omega
  have f : ∀ (s : Bool) (m k : Nat), sgn s (m * 2 ^ (k + c)) = signed s m k * ((2 ^ c : Nat) : Int) := fun s m k => by
    rw [signed_shift, Nat.pow_add, ← Nat.mul_assoc]
    unfold sgn
    cases s
    · simp [Int.natCast_mul]
    · simp [Int.natCast_mul, Int.neg_mul]
  rw [e1, e2, f, f]
  exact compare_congr ⟨fun h => Int.mul_lt_mul_of_pos_right h hp, fun h => Int.lt_of_mul_lt_mul_right h (Int.le_of_lt hp)⟩ ⟨fun h => by rw [h], fun h => Int.eq_of_mul_eq_mul_right (by omega) h⟩

/-- The size of a float in units of the smallest one. -/
def unitsOf (P s : Nat) : Nat := pm P s * 2 ^ (s / 2 ^ P - 1)

theorem units_zero (P : Nat) : unitsOf P 0 = 0 := by unfold unitsOf pm; simp

theorem units_lt (P : Nat) {s t : Nat} (h : s < t) : unitsOf P s < unitsOf P t := by
  have hp : 0 < 2 ^ P := Nat.two_pow_pos P
  have hq : s / 2 ^ P ≤ t / 2 ^ P := Nat.div_le_div_right (Nat.le_of_lt h)
  have key : pm P s < pm P t * 2 ^ ((t / 2 ^ P - 1) - (s / 2 ^ P - 1)) := by
    by_cases h0 : (t / 2 ^ P - 1) - (s / 2 ^ P - 1) = 0
    · rw [h0, Nat.pow_zero, Nat.mul_one]
      by_cases h1 : t / 2 ^ P ≤ 1
      · rw [pm_small P t h1, pm_small P s (Nat.le_trans hq h1)]; exact h
      · have he : s / 2 ^ P = t / 2 ^ P := by generalize t / 2 ^ P = q1 at *; generalize s / 2 ^ P = q2 at *; omega
        have d1 := Nat.div_add_mod t (2 ^ P)
        have d2 := Nat.div_add_mod s (2 ^ P)
        rw [he] at d2
        have h2 : ¬ t / 2 ^ P = 0 := fun h => h1 (by rw [h]; decide)
        unfold pm
        rw [if_neg h2, if_neg (by rw [he]; exact h2)]
        omega
    · have h1 := pm_ge P t (by generalize t / 2 ^ P = q1 at *; omega)
      have h2 := pm_lt P s
      have e : (2 : Nat) ^ (P + 1) = 2 ^ P * 2 ^ 1 := Nat.pow_add ..
      have h3 : 2 ^ P * 2 ^ 1 ≤ pm P t * 2 ^ ((t / 2 ^ P - 1) - (s / 2 ^ P - 1)) := Nat.mul_le_mul h1 (Nat.pow_le_pow_right (by decide) (by omega))
      omega
  unfold unitsOf
  have := Nat.mul_lt_mul_of_pos_right key (Nat.two_pow_pos (s / 2 ^ P - 1))
  rw [Nat.mul_assoc, ← Nat.pow_add, show (t / 2 ^ P - 1) - (s / 2 ^ P - 1) + (s / 2 ^ P - 1) = t / 2 ^ P - 1 by generalize t / 2 ^ P = q1 at *; generalize s / 2 ^ P = q2 at *; omega] at this
  exact this

theorem units_iff (P : Nat) {s t : Nat} : unitsOf P s < unitsOf P t ↔ s < t := by
  constructor
  · intro h
    rcases Nat.lt_trichotomy s t with h1 | h1 | h1
    · exact h1
    · subst h1; omega
    · have := units_lt P h1; omega
  · exact units_lt P

theorem units_eq (P : Nat) {s t : Nat} : unitsOf P s = unitsOf P t ↔ s = t := by
  constructor
  · intro h
    rcases Nat.lt_trichotomy s t with h1 | h1 | h1
    · have := units_lt P h1; omega
    · exact h1
    · have := units_lt P h1; omega
  · intro h; rw [h]

theorem units_pos (P : Nat) {s : Nat} : 0 < unitsOf P s ↔ 0 < s := by
  have := units_iff P (s := 0) (t := s)
  rw [units_zero] at this
  exact this

theorem compare_sgn (P : Nat) (s t : Bool) (x y : Nat) : compare (sgn s (unitsOf P x)) (sgn t (unitsOf P y)) = compare (sgn s x) (sgn t y) := by
  have h1 := units_iff P (s := x) (t := y)
  have h2 := units_iff P (s := y) (t := x)
  have h3 := units_pos P (s := x)
  have h4 := units_pos P (s := y)
  apply compare_congr
  · unfold sgn; cases s <;> cases t <;> simp <;> omega
  · unfold sgn; cases s <;> cases t <;> simp <;> omega

section
variable {f : Format} {SB INF P : Nat} {low : Int} (F : Fmt f SB INF P low) {a b : Nat}
include F

omit F in
theorem rank_sgn : rankOf SB a = sgn (decide (SB ≤ a)) (a % SB) := by
  unfold rankOf sgn
  by_cases h : SB ≤ a <;> simp [h]

theorem order_word (ha : a < 2 * SB) (hb : b < 2 * SB) (na : a % SB ≤ INF) (nb : b % SB ≤ INF) : f.order a b = some (compare (rankOf SB a) (rankOf SB b)) := by
  have h0 := F.inf0
  unfold Format.order
  rw [rank_sgn, rank_sgn]
  by_cases h1 : a % SB = INF
  · have k1 : kindOf INF (a % SB) = 3 := (kind3 h0).2 h1
    rw [rk3 F ha k1]
    by_cases h2 : b % SB = INF
    · have k2 : kindOf INF (b % SB) = 3 := (kind3 h0).2 h2
      rw [rk3 F hb k2, h1, h2]
      simp only [Datum.order]
      congr 1
      cases decide (SB ≤ a) <;> cases decide (SB ≤ b)
      · exact (cmp_eq rfl).symm
      · exact (cmp_gt (by show -(INF : Int) < (INF : Int); omega)).symm
      · exact (cmp_lt (by show -(INF : Int) < (INF : Int); omega)).symm
      · exact (cmp_eq rfl).symm
    · rw [read_fin F.sb F.fr F.lp hb (by rw [F.inf]; omega), h1]
      simp only [Datum.order]
      congr 1
      cases decide (SB ≤ a)
      · exact (cmp_gt (by unfold sgn; cases decide (SB ≤ b) <;> simp <;> omega)).symm
      · exact (cmp_lt (by unfold sgn; cases decide (SB ≤ b) <;> simp <;> omega)).symm
  · rw [read_fin F.sb F.fr F.lp ha (by rw [F.inf]; omega)]
    by_cases h2 : b % SB = INF
    · have k2 : kindOf INF (b % SB) = 3 := (kind3 h0).2 h2
      rw [rk3 F hb k2, h2]
      simp only [Datum.order]
      congr 1
      cases decide (SB ≤ b)
      · exact (cmp_lt (by unfold sgn; cases decide (SB ≤ a) <;> simp <;> omega)).symm
      · exact (cmp_gt (by unfold sgn; cases decide (SB ≤ a) <;> simp <;> omega)).symm
    · rw [read_fin F.sb F.fr F.lp hb (by rw [F.inf]; omega)]
      rw [order_num _ _ _ _ _ _ low (by rw [pe_eq]; omega) (by rw [pe_eq]; omega)]
      rw [show (pe P low (a % SB) - low).toNat = a % SB / 2 ^ P - 1 by rw [pe_eq]; generalize a % SB / 2 ^ P = q; omega]
      rw [show (pe P low (b % SB) - low).toNat = b % SB / 2 ^ P - 1 by rw [pe_eq]; generalize b % SB / 2 ^ P = q; omega]
      exact congrArg some (compare_sgn P _ _ _ _)

theorem order_nan (h : INF < a % SB ∨ INF < b % SB) : f.order a b = none := by
  unfold Format.order
  rcases h with h | h
  · obtain ⟨s, t, e⟩ := read_nan F.sb F.bi (by rw [F.inf]; exact h)
    rw [e]; rfl
  · obtain ⟨s, t, e⟩ := read_nan F.sb F.bi (by rw [F.inf]; exact h)
    rw [e]; cases f.read a <;> rfl
end

end Go.Proofs.YtlhakbkdlgejpaaGreatDoor.Fl
namespace Go.Proofs.YtlhakbkdlgejpaaGreatDoor.Fl
open Ieee

/-- A float of 32 bits as one of 64: the number moved up, its place moved down. -/
def wideD (s : Bool) (m : Nat) (e : Int) : Datum := if m = 0 then .number s 0 (-1074) else .number s (m * 2 ^ (52 - m.log2)) (e - ((52 - m.log2 : Nat) : Int))

/-- A number of at most 53 bits within double's range is written and read again as itself. -/
theorem read_write_double (s : Bool) (m : Nat) (e : Int) (hm : m < 9007199254740992) (he : -1000 ≤ e) (he2 : e ≤ 900) :
    double.read (double.write (.number s m e)) = wideD s m e ∧ double.write (.number s m e) < 2 * 9223372036854775808 ∧ double.write (.number s m e) % 9223372036854775808 < 9218868437227405312 ∧
      decide (9223372036854775808 ≤ double.write (.number s m e)) = s := by
  have F := fmt_double
  have hw : double.write (.number s m e) = double.word s (rungOf double m e) := nearest_eq ..
  rw [hw]
  by_cases h0 : m = 0
  · subst h0
    have : rungOf double 0 e = 0 := rfl
    rw [this]
    cases s
    · refine ⟨?_, by decide, by decide, by decide⟩; rfl
    · refine ⟨?_, by decide, by decide, by decide⟩
      rw [show wideD true 0 e = .number true 0 (-1074) by unfold wideD; rw [if_pos rfl]]
      decide +kernel
  · have hlog : m.log2 < 53 := log2_lt_of h0 (by omega)
    obtain ⟨k, hk⟩ : ∃ k : Nat, k = 52 - m.log2 := ⟨_, rfl⟩
    have hlo := Nat.log2_self_le h0
    have hhi := @Nat.lt_log2_self m
    have hp : 0 < 2 ^ k := Nat.two_pow_pos k
    have hm1 : 4503599627370496 ≤ m * 2 ^ k := by
      have : 2 ^ m.log2 * 2 ^ k ≤ m * 2 ^ k := Nat.mul_le_mul_right _ hlo
      rw [← Nat.pow_add, show m.log2 + k = 52 by omega] at this
      have c : (2 : Nat) ^ 52 = 4503599627370496 := by decide
      omega
    have hm2 : m * 2 ^ k < 9007199254740992 := by
      have : m * 2 ^ k < 2 ^ (m.log2 + 1) * 2 ^ k := Nat.mul_lt_mul_of_pos_right hhi hp
      rw [← Nat.pow_add, show m.log2 + 1 + k = 53 by omega] at this
      have c : (2 : Nat) ^ 53 = 9007199254740992 := by decide
      omega
    have hsc := rungOf_scale double m e k
    have hlog2 : (m * 2 ^ k).log2 = 52 := by rw [log2_two_pow_mul h0]; omega
    obtain ⟨y, hy⟩ : ∃ y : Nat, y = m * 2 ^ k := ⟨_, rfl⟩
    obtain ⟨d, hd⟩ : ∃ d : Int, d = e - (k : Int) := ⟨_, rfl⟩
    rw [← hy, ← hd] at hsc
    rw [← hy] at hm1 hm2 hlog2
    have hL : lastP double y d = d := by
      unfold lastP
      rw [hlog2]
      show max (d + ((52 : Nat) : Int) - ((52 : Nat) : Int)) (-1074) = d
      omega
    have hr : rungOf double y d = (d + 1074).toNat * 4503599627370496 + y := by
      unfold rungOf
      rw [if_neg (by omega), hL]
      show min ((d - (-1074)).toNat * 4503599627370496 + rneI y (d - d)) 9218868437227405312 = _
      have : rneI y (d - d) = y := by
        unfold rneI; rw [show d - d = 0 by omega, if_pos (by omega)]; exact rne_zero y
      rw [this, show d - -1074 = d + 1074 by omega]
      apply Nat.min_eq_left
      omega
    rw [← hsc, hr]
    obtain ⟨r, hre⟩ : ∃ r : Nat, r = (d + 1074).toNat * 4503599627370496 + y := ⟨_, rfl⟩
    rw [← hre]
    have hrb : r < 9218868437227405312 := by omega
    have hword : double.word s r = (if s then 9223372036854775808 + r else r) := rfl
    have hlt : double.word s r < 2 * 9223372036854775808 := by rw [hword]; split <;> omega
    have hmod : double.word s r % 9223372036854775808 = r := by rw [hword]; split <;> omega
    have hsg : decide (9223372036854775808 ≤ double.word s r) = s := by
      rw [hword]; cases s
      · simp; omega
      · simp
    refine ⟨?_, hlt, by rw [hmod]; exact hrb, hsg⟩
    rw [read_fin F.sb F.fr F.lp hlt (by rw [hmod]; exact hrb), hmod, hsg]
    have hq : r / 2 ^ 52 = (d + 1074).toNat + 1 := by show r / 4503599627370496 = _; omega
    have hm3 : r % 2 ^ 52 = y - 4503599627370496 := by show r % 4503599627370496 = _; omega
    have h1 : pm 52 r = y := by
      unfold pm
      rw [if_neg (by omega), hm3]
      show y - 4503599627370496 + 4503599627370496 = y
      omega
    have h2 : pe 52 (-1074) r = d := by rw [pe_eq, hq]; omega
    rw [h1, h2]
    unfold wideD
    rw [if_neg h0, ← hk, ← hy, ← hd]

/-- As floats of 64 bits two numbers stand as they did. -/
theorem order_wide (s t : Bool) (m n : Nat) (i j : Int) (hi : -1000 ≤ i) (hj : -1000 ≤ j) : (wideD s m i).order (wideD t n j) = Datum.order (.number s m i) (.number t n j) := by
  have e1 : ∀ (s : Bool) (m : Nat) (i : Int), -1000 ≤ i → ∃ (m' : Nat) (i' : Int), wideD s m i = .number s m' i' ∧ -1074 ≤ i' ∧ m' * 2 ^ (i' - (-1074)).toNat = m * 2 ^ (i - (-1074)).toNat := fun s m i hi => by
    unfold wideD
    by_cases h0 : m = 0
    · rw [if_pos h0]; exact ⟨0, -1074, rfl, by omega, by rw [h0]; simp⟩
    · rw [if_neg h0]
      refine ⟨_, _, rfl, by omega, ?_⟩
      rw [Nat.mul_assoc, ← Nat.pow_add]
      congr 2
      omega
  obtain ⟨m', i', h1, h2, h3⟩ := e1 s m i hi
  obtain ⟨n', j', h4, h5, h6⟩ := e1 t n j hj
  rw [h1, h4, order_num s t m' n' i' j' (-1074) h2 h5, order_num s t m n i j (-1074) (by omega) (by omega), h3, h6]

end Go.Proofs.YtlhakbkdlgejpaaGreatDoor.Fl
namespace Go.Proofs.YtlhakbkdlgejpaaGreatDoor.Fl
open Ieee

theorem single_bounds {a : Nat} (ha : a < 2 * 2147483648) (h : a % 2147483648 < 2139095040) :
    pm 23 (a % 2147483648) < 9007199254740992 ∧ -1000 ≤ pe 23 (-149) (a % 2147483648) ∧ pe 23 (-149) (a % 2147483648) ≤ 900 := by
  have h1 := pm_lt 23 (a % 2147483648)
  have h2 : pm 23 (a % 2147483648) < 16777216 := h1
  have h3 := pe_eq 23 (-149) (a % 2147483648)
  have h4 : a % 2147483648 / 2 ^ 23 ≤ 255 := by show a % 2147483648 / 8388608 ≤ 255; omega
  generalize a % 2147483648 / 2 ^ 23 = q at *
  omega

/-- A float of 32 bits, as one of 64. -/
def vS (a : Nat) : Nat := double.write (single.read a)

theorem vS_read {a : Nat} (ha : a < 2 * 2147483648) (h : a % 2147483648 ≤ 2139095040) :
    (a % 2147483648 < 2139095040 ∧ double.read (vS a) = wideD (decide (2147483648 ≤ a)) (pm 23 (a % 2147483648)) (pe 23 (-149) (a % 2147483648)) ∧ single.read a = .number (decide (2147483648 ≤ a)) (pm 23 (a % 2147483648)) (pe 23 (-149) (a % 2147483648)) ∨
     a % 2147483648 = 2139095040 ∧ double.read (vS a) = .infinity (decide (2147483648 ≤ a)) ∧ single.read a = .infinity (decide (2147483648 ≤ a))) ∧ vS a < 2 * 9223372036854775808 ∧ vS a % 9223372036854775808 ≤ 9218868437227405312 := by
  have F := fmt_single
  rcases Nat.lt_or_ge (a % 2147483648) 2139095040 with h1 | h1
  · have hb := single_bounds ha h1
    have hr := read_fin F.sb F.fr F.lp ha h1
    have hw := read_write_double (decide (2147483648 ≤ a)) _ _ hb.1 hb.2.1 hb.2.2
    unfold vS
    rw [hr]
    exact ⟨.inl ⟨h1, hw.1, rfl⟩, hw.2.1, by omega⟩
  · have h2 : a % 2147483648 = 2139095040 := by omega
    have hr := read_inf (f := single) F.sb ha F.bi h2
    unfold vS
    rw [hr]
    refine ⟨.inr ⟨h2, ?_, rfl⟩, ?_, ?_⟩
    · cases decide (2147483648 ≤ a) <;> decide +kernel
    · cases decide (2147483648 ≤ a) <;> decide +kernel
    · cases decide (2147483648 ≤ a) <;> decide +kernel

/-- They stand as they did. -/
theorem vS_order {a b : Nat} (ha : a < 2 * 2147483648) (hb : b < 2 * 2147483648) (na : a % 2147483648 ≤ 2139095040) (nb : b % 2147483648 ≤ 2139095040) :
    double.order (vS a) (vS b) = some (compare (rankOf 2147483648 a) (rankOf 2147483648 b)) := by
  rw [← order_word fmt_single ha hb na nb]
  unfold Format.order
  have inf_num : ∀ (s t : Bool) (m : Nat) (e : Int), (Datum.infinity s).order (wideD t m e) = (Datum.infinity s).order (.number t m e) ∧ (wideD t m e).order (Datum.infinity s) = (Datum.number t m e).order (.infinity s) := fun s t m e => by
    unfold wideD; split <;> exact ⟨rfl, rfl⟩
  rcases (vS_read ha na).1 with ⟨x1, x2, x3⟩ | ⟨x1, x2, x3⟩ <;> rcases (vS_read hb nb).1 with ⟨y1, y2, y3⟩ | ⟨y1, y2, y3⟩
  · rw [x2, y2, x3, y3]
    have h1 := single_bounds ha x1
    have h2 := single_bounds hb y1
    exact order_wide _ _ _ _ _ _ h1.2.1 h2.2.1
  · rw [x2, y2, x3, y3]; exact (inf_num _ _ _ _).2
  · rw [x2, y2, x3, y3]; exact (inf_num _ _ _ _).1
  · rw [x2, y2, x3, y3]

/-- What a value of 64 bits stands for: a word of 64 bits, or one of 32. -/
def ValOf (SB INF a v : Nat) : Prop :=
  (INF < a % SB ∧ 9218868437227405312 < v % 9223372036854775808) ∨ (a % SB ≤ INF ∧ v % 9223372036854775808 ≤ 9218868437227405312 ∧ (SB = 2147483648 ∧ INF = 2139095040 ∧ v = vS a ∨ SB = 9223372036854775808 ∧ INF = 9218868437227405312 ∧ v = a))

theorem order_val {SB INF a b v w : Nat} (ha : a < 2 * SB) (hb : b < 2 * SB) (hv : ValOf SB INF a v) (hw : ValOf SB INF b w) :
    double.order v w = if INF < a % SB ∨ INF < b % SB then none else some (compare (rankOf SB a) (rankOf SB b)) := by
  rcases hv with ⟨h1, h2⟩ | ⟨h1, h2, h3⟩
  · rw [if_pos (.inl h1)]
    exact order_nan fmt_double (.inl h2)
  · rcases hw with ⟨g1, g2⟩ | ⟨g1, g2, g3⟩
    · rw [if_pos (.inr g1)]
      exact order_nan fmt_double (.inr g2)
    · rw [if_neg (by omega)]
      rcases h3 with ⟨rfl, rfl, rfl⟩ | ⟨rfl, rfl, rfl⟩
      · rcases g3 with ⟨_, _, rfl⟩ | ⟨h, _, _⟩
        · exact vS_order ha hb h1 g1
        · omega
      · rcases g3 with ⟨h, _, _⟩ | ⟨_, _, rfl⟩
        · omega
        · exact order_word fmt_double ha hb h1 g1

end Go.Proofs.YtlhakbkdlgejpaaGreatDoor.Fl
namespace Go.Proofs.YtlhakbkdlgejpaaGreatDoor.Fl
open Go.RowKit

theorem rsign_32 (w : World) : Calls Tryz.prog 217 #[.int .i64 32] w fun e w' => e = .returned (.int .u64 2147483648) ∧ w = w' := by
  go_enter Tryz.func217, Tryz.ntmps217
  go_wp2
  go_ret
  exact ⟨rfl, rfl⟩

theorem rsign_64 (w : World) : Calls Tryz.prog 217 #[.int .i64 64] w fun e w' => e = .returned (.int .u64 9223372036854775808) ∧ w = w' := by
  go_enter Tryz.func217, Tryz.ntmps217
  go_wp2
  go_ret
  exact ⟨rfl, rfl⟩


end Go.Proofs.YtlhakbkdlgejpaaGreatDoor.Fl
