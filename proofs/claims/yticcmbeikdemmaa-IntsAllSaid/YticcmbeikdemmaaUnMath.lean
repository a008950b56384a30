/-
  Plain facts on counted bits: no program in this text. No condition.
-/
import Derived.Test.YticcmbeikdemmaaSatMath
namespace Go.Proofs.Yticcmbeikdemmaa
open Go

theorem pop_zero : pop 0 = 0 := by rw [pop]; simp
theorem pop_step {a : Nat} (h : a ≠ 0) : pop a = a % 2 + pop (a / 2) := by rw [pop, dif_neg h]
theorem pop_any (a : Nat) : pop a = a % 2 + pop (a / 2) := by
  by_cases h : a = 0
  · subst h; simp [pop_zero]
  · exact pop_step h

theorem pop_le : ∀ (k a : Nat), a < 2 ^ k → pop a ≤ k
  | 0, a, h => by
    have : a = 0 := by simpa using h
    subst this
    simp [pop_zero]
  | k + 1, a, h => by
    have ih := pop_le k (a / 2) (by rw [Nat.pow_succ] at h; omega)
    rw [pop_any]; omega

theorem pop_pos {a : Nat} (h : a ≠ 0) : 1 ≤ pop a := by
  induction a using Nat.strongRecOn with
  | _ a ih =>
    rw [pop_step h]
    by_cases h2 : a % 2 = 1
    · omega
    · have := ih (a / 2) (by omega) (by omega)
      omega

theorem and_halves (a b : Nat) : (a &&& b) / 2 = a / 2 &&& b / 2 := by
  have := @Nat.and_div_two_pow a b 1
  simpa using this
theorem and_low (a b : Nat) : (a &&& b) % 2 = (a % 2) &&& (b % 2) := by
  have := @Nat.and_mod_two_pow a b 1
  simpa using this

/-- The lowest 1 bit goes. -/
theorem pop_less {a : Nat} (h : a ≠ 0) : pop (a &&& (a - 1)) + 1 = pop a := by
  induction a using Nat.strongRecOn with
  | _ a ih =>
    have e1 := and_halves a (a - 1)
    have e2 := and_low a (a - 1)
    rw [pop_step h, pop_any (a &&& (a - 1)), e1, e2]
    by_cases h2 : a % 2 = 1
    · have h3 : (a - 1) / 2 = a / 2 := by omega
      have h4 : (a - 1) % 2 = 0 := by omega
      rw [h3, h4, h2, Nat.and_self]
      simp
      omega
    · have h3 : (a - 1) / 2 = a / 2 - 1 := by omega
      have h5 : a % 2 = 0 := by omega
      have := ih (a / 2) (by omega) (by omega)
      rw [h3, h5]
      simp
      omega

theorem pop_ones : ∀ k : Nat, pop (2 ^ k - 1) = k
  | 0 => by simp [pop_zero]
  | k + 1 => by
    have hp := Nat.two_pow_pos k
    rw [pop_any, Nat.pow_succ]
    have h1 : (2 ^ k * 2 - 1) / 2 = 2 ^ k - 1 := by omega
    have h2 : (2 ^ k * 2 - 1) % 2 = 1 := by omega
    rw [h1, h2, pop_ones k]
    omega

theorem ctzR_zero : ∀ k : Nat, ctzR k 0 = k
  | 0 => rfl
  | k + 1 => by
    rw [ctzR, if_neg (by decide), Nat.zero_div, ctzR_zero k]
    omega

theorem ctzR_le : ∀ k a : Nat, ctzR k a ≤ k
  | 0, _ => Nat.le_refl _
  | k + 1, a => by
    rw [ctzR]
    split
    · omega
    · have := ctzR_le k (a / 2)
      omega

theorem ctzR_same : ∀ (n m a : Nat), n ≤ m → 1 ≤ a → a < 2 ^ n → ctzR m a = ctzR n a
  | 0, _, a, _, h1, h2 => by simp at h2; omega
  | n + 1, m, a, hm, h1, h2 => by
    obtain ⟨k, rfl⟩ : ∃ k, m = k + 1 := ⟨m - 1, by omega⟩
    rw [ctzR, ctzR]
    split
    · rfl
    · rw [ctzR_same n k (a / 2) (by omega) (by omega) (by rw [Nat.pow_succ] at h2; omega)]

theorem and_not_self : ∀ (W c : Nat), c < 2 ^ W → (2 ^ W - 1 - c) &&& c = 0
  | 0, c, h => by
    have : c = 0 := by simpa using h
    subst this; rfl
  | W + 1, c, h => by
    have hp := Nat.two_pow_pos W
    rw [Nat.pow_succ] at h ⊢
    have ih := and_not_self W (c / 2) (by omega)
    have e1 := and_halves (2 ^ W * 2 - 1 - c) c
    have e2 := and_low (2 ^ W * 2 - 1 - c) c
    have h1 : (2 ^ W * 2 - 1 - c) / 2 = 2 ^ W - 1 - c / 2 := by omega
    rw [h1, ih] at e1
    have h2 : c % 2 = 0 ∨ c % 2 = 1 := by omega
    rcases h2 with h2 | h2
    · have h3 : (2 ^ W * 2 - 1 - c) % 2 = 1 := by omega
      rw [h2, h3] at e2
      simp at e2
      omega
    · have h3 : (2 ^ W * 2 - 1 - c) % 2 = 0 := by omega
      rw [h2, h3] at e2
      simp at e2
      omega

theorem low_ones : ∀ (W a : Nat), 1 ≤ a → a < 2 ^ W → (2 ^ W - 1 - a) &&& (a - 1) = 2 ^ (ctzR W a) - 1
  | 0, a, h1, h2 => by simp at h2; omega
  | W + 1, a, h1, h2 => by
    have hp := Nat.two_pow_pos W
    rw [Nat.pow_succ] at h2 ⊢
    have e1 := and_halves (2 ^ W * 2 - 1 - a) (a - 1)
    have e2 := and_low (2 ^ W * 2 - 1 - a) (a - 1)
    have h3 : (2 ^ W * 2 - 1 - a) / 2 = 2 ^ W - 1 - a / 2 := by omega
    rw [ctzR]
    split
    · rename_i h
      have h4 : (a - 1) / 2 = a / 2 := by omega
      have h5 : (a - 1) % 2 = 0 := by omega
      rw [h3, h4, and_not_self W (a / 2) (by omega)] at e1
      rw [h5, Nat.and_zero] at e2
      simp
      omega
    · rename_i h
      have h4 : (a - 1) / 2 = a / 2 - 1 := by omega
      have h5 : (a - 1) % 2 = 1 := by omega
      have h6 : (2 ^ W * 2 - 1 - a) % 2 = 1 := by omega
      rw [h3, h4, low_ones W (a / 2) (by omega) (by omega)] at e1
      rw [h5, h6] at e2
      have e3 : ((2 ^ W * 2 - 1 - a) &&& (a - 1)) % 2 = 1 := e2
      have hq := Nat.two_pow_pos (ctzR W (a / 2))
      rw [Nat.add_comm 1, Nat.pow_succ]
      omega

/-- The 0 bits below the lowest 1 bit, as 1 bits, cut. -/
theorem ctz_bits {n a : Nat} (hn : Okn n) (ha : a < 2 ^ n) : ((18446744073709551615 - a) &&& ((a + 18446744073709551615) % 18446744073709551616)) % 2 ^ n = 2 ^ (ctzR n a) - 1 := by
  have hn8 := hn.le
  obtain ⟨h1, h2, h3, h4⟩ := pow_lt64 hn
  by_cases h0 : a = 0
  · subst h0
    rw [ctzR_zero]
    rcases hn with rfl | rfl | rfl | rfl <;> decide
  · have e : (a + 18446744073709551615) % 18446744073709551616 = a - 1 := by omega
    have hl := low_ones 64 a (by omega) (by omega)
    have hc := ctzR_le n a
    have hle : 2 ^ ctzR n a ≤ 2 ^ n := Nat.pow_le_pow_right (by decide) hc
    have hq := Nat.two_pow_pos (ctzR n a)
    rw [e, show (18446744073709551615 : Nat) = 2 ^ 64 - 1 from rfl, hl, ctzR_same n 64 a hn8.2 (by omega) ha]
    exact Nat.mod_eq_of_lt (by omega)

/-- The bits the other way round. -/
def revR : Nat → Nat → Nat
  | 0, _ => 0
  | k + 1, a => 2 * revR k a + a / 2 ^ k % 2

theorem revR_lt : ∀ k a : Nat, revR k a < 2 ^ k
  | 0, _ => by simp [revR]
  | k + 1, a => by
    have := revR_lt k a
    rw [revR, Nat.pow_succ]
    omega

theorem ctz_rev : ∀ k a : Nat, ctzR k (revR k a) = clzR k a
  | 0, _ => rfl
  | k + 1, a => by
    have ih := ctz_rev k a
    rw [revR, ctzR, clzR, Nat.testBit_eq_decide_div_mod_eq]
    have h1 : (2 * revR k a + a / 2 ^ k % 2) % 2 = a / 2 ^ k % 2 := by omega
    have h2 : (2 * revR k a + a / 2 ^ k % 2) / 2 = revR k a := by omega
    rw [h1, h2, ih]
    simp

theorem clzR_le : ∀ k a : Nat, clzR k a ≤ k
  | 0, _ => Nat.le_refl _
  | k + 1, a => by
    rw [clzR]
    split
    · omega
    · have := clzR_le k a
      omega

end Go.Proofs.Yticcmbeikdemmaa
