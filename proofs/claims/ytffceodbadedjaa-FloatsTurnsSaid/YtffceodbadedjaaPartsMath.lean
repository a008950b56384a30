/-
  The parts of a float, on plain numbers, and what a word stands for. Condition: the format is that of 32 or of 64 bits.
-/
import Derived.Test.YtffceodbadedjaaSumMath
import Derived.Test.YtffceodbadedjaaParts
set_option linter.unusedSimpArgs false
set_option linter.unusedVariables false
namespace Go.Proofs.Ytffceodbadedjaa
open Ieee

theorem pe_eq (P : Nat) (low : Int) (s : Nat) : pe P low s = low + ((s / 2 ^ P - 1 : Nat) : Int) := by
  unfold pe; split
  · rename_i h; rw [h]; simp
  · rfl

theorem pm_lt (P s : Nat) : pm P s < 2 ^ (P + 1) := by
  have hp : 0 < 2 ^ P := Nat.two_pow_pos P
  have hm := Nat.mod_lt s hp
  have e : (2 : Nat) ^ (P + 1) = 2 * 2 ^ P := by rw [Nat.pow_succ]; omega
  have hdm := Nat.div_add_mod s (2 ^ P)
  unfold pm; split
  · rename_i h; rw [h] at hdm; simp at hdm; omega
  · omega

theorem pm_ge (P s : Nat) (h : s / 2 ^ P ≠ 0) : 2 ^ P ≤ pm P s := by
  unfold pm; rw [if_neg h]; omega

theorem pm_small (P s : Nat) (h : s / 2 ^ P ≤ 1) : pm P s = s := by
  have hdm := Nat.div_add_mod s (2 ^ P)
  unfold pm; split
  · rfl
  · rename_i h0
    have h1 : s / 2 ^ P = 1 := by generalize s / 2 ^ P = q at *; omega
    rw [h1] at hdm; omega

/-- How far apart the places of two floats are. -/
theorem parts_ord (P : Nat) (low : Int) {s1 s2 : Nat} (h : s2 ≤ s1) :
    ∃ ap : Nat, pe P low s2 + ap = pe P low s1 ∧ pm P s2 ≤ pm P s1 * 2 ^ ap ∧ (ap ≠ 0 → 2 ^ P ≤ pm P s1) ∧ ap ≤ s1 / 2 ^ P := by
  have hp : 0 < 2 ^ P := Nat.two_pow_pos P
  have hq : s2 / 2 ^ P ≤ s1 / 2 ^ P := Nat.div_le_div_right h
  refine ⟨(s1 / 2 ^ P - 1) - (s2 / 2 ^ P - 1), by rw [pe_eq, pe_eq]; generalize s1 / 2 ^ P = q1 at *; generalize s2 / 2 ^ P = q2 at *; omega, ?_, fun h0 => pm_ge P s1 (by generalize s1 / 2 ^ P = q1 at *; omega), by generalize s1 / 2 ^ P = q1 at *; omega⟩
  by_cases h0 : (s1 / 2 ^ P - 1) - (s2 / 2 ^ P - 1) = 0
  · rw [h0, Nat.pow_zero, Nat.mul_one]
    by_cases h1 : s1 / 2 ^ P ≤ 1
    · rw [pm_small P s1 h1, pm_small P s2 (Nat.le_trans hq h1)]; exact h
    · have he : s2 / 2 ^ P = s1 / 2 ^ P := by generalize s1 / 2 ^ P = q1 at *; generalize s2 / 2 ^ P = q2 at *; omega
      have d1 := Nat.div_add_mod s1 (2 ^ P)
      have d2 := Nat.div_add_mod s2 (2 ^ P)
      rw [he] at d2
      have h2 : ¬ s1 / 2 ^ P = 0 := fun h => h1 (by rw [h]; decide)
      unfold pm
      rw [if_neg h2, if_neg (by rw [he]; exact h2)]
      omega
  · have h1 := pm_ge P s1 (by generalize s1 / 2 ^ P = q1 at *; omega)
    have h2 := pm_lt P s2
    have e : (2 : Nat) ^ (P + 1) = 2 ^ P * 2 ^ 1 := Nat.pow_add ..
    have h3 : 2 ^ P * 2 ^ 1 ≤ pm P s1 * 2 ^ ((s1 / 2 ^ P - 1) - (s2 / 2 ^ P - 1)) := Nat.mul_le_mul h1 (Nat.pow_le_pow_right (by decide) (by omega))
    omega

/-- What a finite word stands for. -/
theorem read_fin {f : Format} {a SB P : Nat} {low : Int} (hSB : f.signWeight = SB) (hP : f.fractionBits = P) (hlow : f.leastPlace = low) (ha : a < 2 * SB) (h : a % SB < f.infRung) :
    f.read a = .number (decide (SB ≤ a)) (pm P (a % SB)) (pe P low (a % SB)) := by
  subst hSB hP hlow
  have hp : 0 < 2 ^ f.fractionBits := Nat.two_pow_pos _
  have hsg : (a / f.signWeight % 2 == 1) = decide (f.signWeight ≤ a) := by
    by_cases hc : f.signWeight ≤ a
    · have : a / f.signWeight = 1 := by rw [Nat.div_eq_iff (by omega)]; omega
      simp [this, hc]
    · have : a / f.signWeight = 0 := Nat.div_eq_of_lt (by omega)
      simp [this, hc]
  unfold Format.read
  simp only [hsg]
  by_cases hb : a % f.signWeight < f.binade
  · rw [if_pos hb]
    have h0 : a % f.signWeight / 2 ^ f.fractionBits = 0 := Nat.div_eq_of_lt hb
    unfold pm pe; rw [if_pos h0, if_pos h0]
  · rw [if_neg hb, if_pos h]
    have h0 : ¬ a % f.signWeight / 2 ^ f.fractionBits = 0 := by
      intro h0
      rcases Nat.lt_or_ge (a % f.signWeight) (2 ^ f.fractionBits) with h2 | h2
      · exact hb h2
      · have := Nat.div_pos h2 hp; omega
    unfold pm pe; rw [if_neg h0, if_neg h0, Nat.add_comm]; rfl

theorem read_inf {f : Format} {a SB : Nat} (hSB : f.signWeight = SB) (ha : a < 2 * SB) (hb : f.binade ≤ f.infRung) (h : a % SB = f.infRung) :
    f.read a = .infinity (decide (SB ≤ a)) := by
  subst hSB
  have hsg : (a / f.signWeight % 2 == 1) = decide (f.signWeight ≤ a) := by
    by_cases hc : f.signWeight ≤ a
    · have : a / f.signWeight = 1 := by rw [Nat.div_eq_iff (by omega)]; omega
      simp [this, hc]
    · have : a / f.signWeight = 0 := Nat.div_eq_of_lt (by omega)
      simp [this, hc]
  unfold Format.read
  simp only [hsg]
  rw [if_neg (by omega), if_neg (by omega), if_pos h]

theorem read_nan {f : Format} {a SB : Nat} (hSB : f.signWeight = SB) (hb : f.binade ≤ f.infRung) (h : f.infRung < a % SB) :
    ∃ s t, f.read a = .nan s t := by
  subst hSB
  unfold Format.read
  simp only []
  rw [if_neg (by omega), if_neg (by omega), if_neg (by omega)]
  exact ⟨_, _, rfl⟩

end Go.Proofs.Ytffceodbadedjaa
