/-
  Sums, products and quotients of words by their kinds. Condition: the format is that of 32 or of 64 bits; the words are no NaNs.
-/
import Derived.Test.YtffceodbadedjaaPartsMath
import Derived.Test.YtffceodbadedjaaQuoMath
import Derived.Test.YtffceodbadedjaaSmall
set_option linter.unusedSimpArgs false
set_option linter.unusedVariables false
namespace Go.Proofs.Ytffceodbadedjaa
open Ieee

/-- A format's numbers. -/
structure Fmt (f : Format) (SB INF P : Nat) (low : Int) : Prop where
  sb : f.signWeight = SB
  inf : f.infRung = INF
  fr : f.fractionBits = P
  lp : f.leastPlace = low
  bi : f.binade ≤ f.infRung
  p52 : P ≤ 52
  inf0 : 0 < INF

theorem fmt_single : Fmt single 2147483648 2139095040 23 (-149) := ⟨rfl, rfl, rfl, rfl, by decide, by decide, by decide⟩
theorem fmt_double : Fmt double 9223372036854775808 9218868437227405312 52 (-1074) := ⟨rfl, rfl, rfl, rfl, by decide, by decide, by decide⟩

theorem kind1 {INF s : Nat} : kindOf INF s = 1 ↔ s = 0 := by
  unfold kindOf; split
  · simp [*]
  · split
    · simp [*]
    · split
      · simp; omega
      · simp [*]
theorem kind3 {INF s : Nat} (h0 : 0 < INF) : kindOf INF s = 3 ↔ s = INF := by
  unfold kindOf; split
  · simp; omega
  · split
    · simp; omega
    · split <;> simp [*]
theorem kind2 {INF s : Nat} : kindOf INF s = 2 ↔ s ≠ 0 ∧ s < INF := by
  unfold kindOf; split
  · simp [*]
  · split
    · simp [*]
    · split
      · simp; omega
      · simp; omega
theorem kind_le {INF s : Nat} (h : s ≤ INF) : kindOf INF s = 1 ∨ kindOf INF s = 2 ∨ kindOf INF s = 3 := by
  unfold kindOf; split
  · exact .inl rfl
  · split
    · exact .inr (.inl rfl)
    · rw [if_pos (by omega)]; exact .inr (.inr rfl)

section
variable {f : Format} {SB INF P : Nat} {low : Int} (F : Fmt f SB INF P low) {a b : Nat}
include F

theorem rk1 (ha : a < 2 * SB) (h : kindOf INF (a % SB) = 1) : f.read a = .number (decide (SB ≤ a)) 0 (pe P low (a % SB)) := by
  have h0 := kind1.1 h
  rw [read_fin F.sb F.fr F.lp ha (by rw [F.inf, h0]; exact F.inf0)]
  have : pm P (a % SB) = 0 := by rw [h0]; unfold pm; simp
  rw [this]

theorem rk2 (ha : a < 2 * SB) (h : kindOf INF (a % SB) = 2) : f.read a = .number (decide (SB ≤ a)) (pm P (a % SB)) (pe P low (a % SB)) ∧ pm P (a % SB) ≠ 0 := by
  have h0 := kind2.1 h
  refine ⟨read_fin F.sb F.fr F.lp ha (by rw [F.inf]; exact h0.2), ?_⟩
  unfold pm; split
  · exact h0.1
  · have := Nat.two_pow_pos P; omega

theorem rk3 (ha : a < 2 * SB) (h : kindOf INF (a % SB) = 3) : f.read a = .infinity (decide (SB ≤ a)) :=
  read_inf F.sb ha F.bi (by rw [F.inf]; exact (kind3 F.inf0).1 h)

theorem div_can (ha : a < 2 * SB) (hb : b < 2 * SB) (h : kindOf INF (a % SB) = 1 ∧ kindOf INF (b % SB) = 1 ∨ kindOf INF (a % SB) = 3 ∧ kindOf INF (b % SB) = 3) : f.div a b = none := by
  unfold Format.div
  rcases h with ⟨h1, h2⟩ | ⟨h1, h2⟩
  · rw [rk1 F ha h1, rk1 F hb h2]; rfl
  · rw [rk3 F ha h1, rk3 F hb h2]; rfl

theorem div_inf (ha : a < 2 * SB) (hb : b < 2 * SB) (h : kindOf INF (a % SB) = 3 ∧ (kindOf INF (b % SB) = 1 ∨ kindOf INF (b % SB) = 2) ∨ kindOf INF (a % SB) = 2 ∧ kindOf INF (b % SB) = 1) :
    f.div a b = some (f.word (decide (SB ≤ a) ^^ decide (SB ≤ b)) INF) := by
  unfold Format.div
  rw [← F.inf]
  rcases h with ⟨h1, h2 | h2⟩ | ⟨h1, h2⟩
  · rw [rk3 F ha h1, rk1 F hb h2]; rfl
  · rw [rk3 F ha h1, (rk2 F hb h2).1]; rfl
  · have h3 := rk2 F ha h1
    rw [h3.1, rk1 F hb h2]
    simp only [Datum.quotient, if_true, if_neg h3.2]; rfl

theorem div_zero (ha : a < 2 * SB) (hb : b < 2 * SB) (h : kindOf INF (a % SB) = 1 ∧ (kindOf INF (b % SB) = 2 ∨ kindOf INF (b % SB) = 3) ∨ kindOf INF (a % SB) = 2 ∧ kindOf INF (b % SB) = 3) :
    f.div a b = some (f.word (decide (SB ≤ a) ^^ decide (SB ≤ b)) 0) := by
  unfold Format.div
  rcases h with ⟨h1, h2 | h2⟩ | ⟨h1, h2⟩
  · have h3 := rk2 F hb h2
    rw [rk1 F ha h1, h3.1]
    simp only [Datum.quotient, if_neg h3.2, Nat.zero_shiftLeft, Nat.zero_div, Nat.zero_mod, Option.map_some, Format.write]
    rw [nearest_eq]; rfl
  · rw [rk1 F ha h1, rk3 F hb h2]
    simp only [Datum.quotient, Option.map_some, Format.write]
    rw [nearest_eq]; rfl
  · rw [(rk2 F ha h1).1, rk3 F hb h2]
    simp only [Datum.quotient, Option.map_some, Format.write]
    rw [nearest_eq]; rfl

theorem div_fin (ha : a < 2 * SB) (hb : b < 2 * SB) (h1 : kindOf INF (a % SB) = 2) (h2 : kindOf INF (b % SB) = 2) {j1 j2 : Nat}
    (hX : 9223372036854775808 ≤ pm P (a % SB) * 2 ^ j1) (hX2 : pm P (a % SB) * 2 ^ j1 < 18446744073709551616) (hY : 9223372036854775808 ≤ pm P (b % SB) * 2 ^ j2) (hY2 : pm P (b % SB) * 2 ^ j2 < 18446744073709551616) (hj2 : j2 ≤ 63) :
    f.div a b = some (f.word (decide (SB ≤ a) ^^ decide (SB ≤ b)) (rungD f (2 ^ 62 * (pm P (a % SB) * 2 ^ j1 / 2)) (2 * (pm P (b % SB) * 2 ^ j2 / 2)) (pe P low (a % SB) - j1 - (pe P low (b % SB) - j2) - 61))) := by
  have h3 := rk2 F ha h1
  have h4 := rk2 F hb h2
  unfold Format.div
  rw [h3.1, h4.1]
  exact quo_math (by rw [F.fr]; exact F.p52) _ _ _ _ h3.2 h4.2 (by rw [F.fr]; exact pm_lt _ _) hX hX2 hY hY2 hj2 (by rw [F.fr]; exact pm_lt _ _)

theorem mul_can (ha : a < 2 * SB) (hb : b < 2 * SB) (h : kindOf INF (a % SB) = 1 ∧ kindOf INF (b % SB) = 3 ∨ kindOf INF (a % SB) = 3 ∧ kindOf INF (b % SB) = 1) : f.mul a b = none := by
  unfold Format.mul
  rcases h with ⟨h1, h2⟩ | ⟨h1, h2⟩
  · rw [rk1 F ha h1, rk3 F hb h2]; rfl
  · rw [rk3 F ha h1, rk1 F hb h2]; rfl

theorem mul_inf (ha : a < 2 * SB) (hb : b < 2 * SB) (h : kindOf INF (a % SB) = 3 ∧ (kindOf INF (b % SB) = 3 ∨ kindOf INF (b % SB) = 2) ∨ kindOf INF (a % SB) = 2 ∧ kindOf INF (b % SB) = 3) :
    f.mul a b = some (f.word (decide (SB ≤ a) ^^ decide (SB ≤ b)) INF) := by
  unfold Format.mul
  rw [← F.inf]
  rcases h with ⟨h1, h2 | h2⟩ | ⟨h1, h2⟩
  · rw [rk3 F ha h1, rk3 F hb h2]; rfl
  · have h3 := rk2 F hb h2
    rw [rk3 F ha h1, h3.1]
    simp only [Datum.product, if_neg h3.2]; rfl
  · have h3 := rk2 F ha h1
    rw [h3.1, rk3 F hb h2]
    simp only [Datum.product, if_neg h3.2]
    rw [Bool.xor_comm]; rfl

theorem mul_fin (ha : a < 2 * SB) (hb : b < 2 * SB) (h1 : kindOf INF (a % SB) = 1 ∨ kindOf INF (a % SB) = 2) (h2 : kindOf INF (b % SB) = 1 ∨ kindOf INF (b % SB) = 2) :
    f.mul a b = some (f.word (decide (SB ≤ a) ^^ decide (SB ≤ b)) (rungOf f (pm P (a % SB) * pm P (b % SB)) (pe P low (a % SB) + pe P low (b % SB)))) := by
  have hfin : ∀ c, (kindOf INF c = 1 ∨ kindOf INF c = 2) → c < INF := fun c h => by
    rcases h with h | h
    · rw [kind1.1 h]; exact F.inf0
    · exact (kind2.1 h).2
  unfold Format.mul
  rw [read_fin F.sb F.fr F.lp ha (by rw [F.inf]; exact hfin _ h1), read_fin F.sb F.fr F.lp hb (by rw [F.inf]; exact hfin _ h2)]
  simp only [Datum.product, Option.map_some, Format.write]
  rw [nearest_eq]
end

/-- The sign of two words held against each other. -/
theorem xor_top {k a b : Nat} (ha : a < 2 * 2 ^ k) (hb : b < 2 * 2 ^ k) : decide (2 ^ k ≤ a ^^^ b) = (decide (2 ^ k ≤ a) ^^ decide (2 ^ k ≤ b)) ∧ a ^^^ b < 2 * 2 ^ k := by
  have top : ∀ x, x < 2 * 2 ^ k → x.testBit k = decide (2 ^ k ≤ x) := fun x hx => by
    have hp : 0 < 2 ^ k := Nat.two_pow_pos k
    rw [Nat.testBit_eq_decide_div_mod_eq]
    by_cases hc : 2 ^ k ≤ x
    · have : x / 2 ^ k = 1 := by rw [Nat.div_eq_iff hp]; omega
      simp [this, hc]
    · have : x / 2 ^ k = 0 := Nat.div_eq_of_lt (by omega)
      simp [this, hc]
  have e : 2 * 2 ^ k = 2 ^ (k + 1) := by rw [Nat.pow_succ]; omega
  have hx : a ^^^ b < 2 * 2 ^ k := by rw [e] at ha hb ⊢; exact Nat.xor_lt_two_pow ha hb
  exact ⟨by rw [← top _ hx, ← top a ha, ← top b hb, Nat.testBit_xor], hx⟩

end Go.Proofs.Ytffceodbadedjaa
