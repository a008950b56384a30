/-
  Plain facts on sums that are held, on the sign bit turned over, on means: no program in this text. Condition: the bits are 8, 16, 32 or 64, the numbers are cut.
-/
import Derived.Test.YticcmbeikdemmaaMath
namespace Go.Proofs.Yticcmbeikdemmaa
open Go

theorem bit_of_mod {n : Nat} (hn : Okn n) (x : Nat) : x.testBit (n - 1) = decide (2 ^ (n - 1) ≤ x % 2 ^ n) := by
  rw [← testBit_top hn (Nat.mod_lt _ (Nat.two_pow_pos n)), Nat.testBit_mod_two_pow]
  have := hn.le
  simp
  omega

/-- Where a sum with a sign is too great or too small. -/
theorem sat_bits {n a b s : Nat} (hn : Okn n) : ((a ^^^ s) &&& (b ^^^ s)).testBit (n - 1) = decide (¬ (2 ^ (n - 1) ≤ a % 2 ^ n ↔ 2 ^ (n - 1) ≤ s % 2 ^ n) ∧ ¬ (2 ^ (n - 1) ≤ b % 2 ^ n ↔ 2 ^ (n - 1) ≤ s % 2 ^ n)) := by
  rw [Nat.testBit_and, Nat.testBit_xor, Nat.testBit_xor, bit_of_mod hn, bit_of_mod hn, bit_of_mod hn]
  by_cases h1 : 2 ^ (n - 1) ≤ a % 2 ^ n <;> by_cases h2 : 2 ^ (n - 1) ≤ b % 2 ^ n <;> by_cases h3 : 2 ^ (n - 1) ≤ s % 2 ^ n <;> simp [h1, h2, h3]

theorem add_in {n a b : Nat} (hn : Okn n) (ha : a < 2 ^ n) (hb : b < 2 ^ n) (h : ¬ (¬ (2 ^ (n - 1) ≤ a % 2 ^ n ↔ 2 ^ (n - 1) ≤ (a + b) % 18446744073709551616 % 2 ^ n) ∧ ¬ (2 ^ (n - 1) ≤ b % 2 ^ n ↔ 2 ^ (n - 1) ≤ (a + b) % 18446744073709551616 % 2 ^ n))) :
    (a + b) % 18446744073709551616 % 2 ^ n = toN n (clampS n (sg n a + sg n b)) := by
  unfold toN clampS sg
  rcases hn with rfl | rfl | rfl | rfl <;> simp at ha hb h ⊢ <;> repeat' split <;> omega

theorem add_out {n a b : Nat} (hn : Okn n) (ha : a < 2 ^ n) (hb : b < 2 ^ n) (h : ¬ (2 ^ (n - 1) ≤ a % 2 ^ n ↔ 2 ^ (n - 1) ≤ (a + b) % 18446744073709551616 % 2 ^ n) ∧ ¬ (2 ^ (n - 1) ≤ b % 2 ^ n ↔ 2 ^ (n - 1) ≤ (a + b) % 18446744073709551616 % 2 ^ n)) :
    (if 2 ^ (n - 1) ≤ a then 2 ^ (n - 1) else 2 ^ (n - 1) - 1) = toN n (clampS n (sg n a + sg n b)) := by
  unfold toN clampS sg
  rcases hn with rfl | rfl | rfl | rfl <;> simp at ha hb h ⊢ <;> repeat' split <;> omega

theorem sub_in {n a b c : Nat} (hn : Okn n) (ha : a < 2 ^ n) (hb : b < 2 ^ n) (hc : c = 18446744073709551615 - b) (h : ¬ (¬ (2 ^ (n - 1) ≤ a % 2 ^ n ↔ 2 ^ (n - 1) ≤ (a + c + 1) % 18446744073709551616 % 2 ^ n) ∧ ¬ (2 ^ (n - 1) ≤ c % 2 ^ n ↔ 2 ^ (n - 1) ≤ (a + c + 1) % 18446744073709551616 % 2 ^ n))) :
    (a + c + 1) % 18446744073709551616 % 2 ^ n = toN n (clampS n (sg n a - sg n b)) := by
  unfold toN clampS sg
  rcases hn with rfl | rfl | rfl | rfl <;> simp at ha hb h ⊢ <;> repeat' split <;> omega

theorem sub_out {n a b c : Nat} (hn : Okn n) (ha : a < 2 ^ n) (hb : b < 2 ^ n) (hc : c = 18446744073709551615 - b) (h : ¬ (2 ^ (n - 1) ≤ a % 2 ^ n ↔ 2 ^ (n - 1) ≤ (a + c + 1) % 18446744073709551616 % 2 ^ n) ∧ ¬ (2 ^ (n - 1) ≤ c % 2 ^ n ↔ 2 ^ (n - 1) ≤ (a + c + 1) % 18446744073709551616 % 2 ^ n)) :
    (if 2 ^ (n - 1) ≤ a then 2 ^ (n - 1) else 2 ^ (n - 1) - 1) = toN n (clampS n (sg n a - sg n b)) := by
  unfold toN clampS sg
  rcases hn with rfl | rfl | rfl | rfl <;> simp at ha hb h ⊢ <;> repeat' split <;> omega

theorem xor_max (b : Nat) (hb : b < 18446744073709551616) : bits .xor .u64 IntKind.u64.max (b : Int) = ((18446744073709551615 - b : Nat) : Int) := by
  have e : IntKind.u64.max = ((18446744073709551615 : Nat) : Int) := by decide
  rw [e, bits_xor_u64_nat _ _ (by decide) hb]
  congr 1
  apply Nat.eq_of_testBit_eq
  intro i
  have h : 18446744073709551615 - b = 2 ^ 64 - (b + 1) := by omega
  rw [h, Nat.testBit_two_pow_sub_succ (by omega), Nat.testBit_xor, show (18446744073709551615 : Nat) = 2 ^ 64 - 1 from rfl, Nat.testBit_two_pow_sub_one]
  by_cases hi : i < 64
  · simp [hi]
  · have : b.testBit i = false := Nat.testBit_lt_two_pow (Nat.lt_of_lt_of_le hb (Nat.pow_le_pow_right (n := 2) (i := 64) (by decide) (by omega)))
    simp [hi, this]

/-- A cut number with its sign bit turned over. -/
def turned (n a : Nat) : Nat := if 2 ^ (n - 1) ≤ a then a - 2 ^ (n - 1) else a + 2 ^ (n - 1)

theorem xor_top {n a : Nat} (hn : Okn n) (ha : a < 2 ^ n) : a ^^^ 2 ^ (n - 1) = turned n a := by
  obtain ⟨h1, h2, h3, h4⟩ := pow_lt64 hn
  unfold turned
  split
  · rename_i h
    have e : a = 2 ^ (n - 1) ||| (a - 2 ^ (n - 1)) := by
      have := Nat.two_pow_add_eq_or_of_lt (i := n - 1) (b := a - 2 ^ (n - 1)) (by omega) 1
      rw [Nat.mul_one] at this
      rw [← this]; omega
    apply Nat.eq_of_testBit_eq
    intro i
    rw [Nat.testBit_xor, Nat.testBit_two_pow]
    conv => lhs; rw [e]
    rw [Nat.testBit_or, Nat.testBit_two_pow]
    by_cases hi : n - 1 = i
    · subst hi
      have : (a - 2 ^ (n - 1)).testBit (n - 1) = false := Nat.testBit_lt_two_pow (by omega)
      simp [this]
    · simp [hi]
  · rename_i h
    have e : a + 2 ^ (n - 1) = 2 ^ (n - 1) ||| a := by
      have := Nat.two_pow_add_eq_or_of_lt (i := n - 1) (b := a) (by omega) 1
      rw [Nat.mul_one] at this
      rw [← this]; omega
    rw [e]
    apply Nat.eq_of_testBit_eq
    intro i
    rw [Nat.testBit_xor, Nat.testBit_two_pow, Nat.testBit_or, Nat.testBit_two_pow]
    by_cases hi : n - 1 = i
    · subst hi
      have : a.testBit (n - 1) = false := Nat.testBit_lt_two_pow (by omega)
      simp [this]
    · simp [hi]

theorem turned_lt {n a : Nat} (hn : Okn n) (ha : a < 2 ^ n) : turned n a < 2 ^ n := by
  obtain ⟨h1, h2, h3, h4⟩ := pow_lt64 hn
  unfold turned; split <;> omega

theorem turned_turned {n a : Nat} (hn : Okn n) (ha : a < 2 ^ n) : turned n (turned n a) = a := by
  obtain ⟨h1, h2, h3, h4⟩ := pow_lt64 hn
  unfold turned; split <;> split <;> omega

theorem turned_sg {n a : Nat} (hn : Okn n) : ((turned n a : Nat) : Int) = sg n a + (2 ^ (n - 1) : Nat) := by
  obtain ⟨h1, h2, h3, h4⟩ := pow_lt64 hn
  unfold turned sg; split <;> omega

theorem xor_turned {n a : Nat} (hn : Okn n) (ha : a < 2 ^ n) : bits .xor .u64 (a : Int) ((2 ^ (n - 1) : Nat) : Int) = ((turned n a : Nat) : Int) := by
  obtain ⟨h1, h2, h3, h4⟩ := pow_lt64 hn
  rw [bits_xor_u64_nat _ _ (by omega) h1, xor_top hn ha]

theorem xor_zero (a : Nat) (ha : a < 18446744073709551616) : bits .xor .u64 (a : Int) 0 = (a : Int) := by
  have := bits_xor_u64_nat a 0 ha (by decide)
  rw [Nat.xor_zero] at this
  exact this

theorem xor_and_or : ∀ (k a b : Nat), a < 2 ^ k → b < 2 ^ k → (a ||| b) = (a &&& b) + (a ^^^ b) ∧ a + b = 2 * (a &&& b) + (a ^^^ b)
  | 0, a, b, ha, hb => by
    have h1 : a = 0 := by simpa using ha
    have h2 : b = 0 := by simpa using hb
    subst h1; subst h2; decide
  | k + 1, a, b, ha, hb => by
    have ih := xor_and_or k (a / 2) (b / 2) (by rw [Nat.pow_succ] at ha; omega) (by rw [Nat.pow_succ] at hb; omega)
    have e1 := @Nat.or_div_two_pow a b 1
    have e2 := @Nat.and_div_two_pow a b 1
    have e3 := @Nat.xor_div_two_pow a b 1
    have f1 := @Nat.or_mod_two_pow a b 1
    have f2 := @Nat.and_mod_two_pow a b 1
    have f3 := @Nat.xor_mod_two_pow a b 1
    simp only [Nat.pow_one] at e1 e2 e3 f1 f2 f3
    rw [← e1, ← e2, ← e3] at ih
    have hA : a % 2 = 0 ∨ a % 2 = 1 := by omega
    have hB : b % 2 = 0 ∨ b % 2 = 1 := by omega
    rcases hA with hA | hA <;> rcases hB with hB | hB <;> rw [hA, hB] at f1 f2 f3
    · have g1 : (a ||| b) % 2 = 0 := f1
      have g2 : (a &&& b) % 2 = 0 := f2
      have g3 : (a ^^^ b) % 2 = 0 := f3
      omega
    · have g1 : (a ||| b) % 2 = 1 := f1
      have g2 : (a &&& b) % 2 = 0 := f2
      have g3 : (a ^^^ b) % 2 = 1 := f3
      omega
    · have g1 : (a ||| b) % 2 = 1 := f1
      have g2 : (a &&& b) % 2 = 0 := f2
      have g3 : (a ^^^ b) % 2 = 1 := f3
      omega
    · have g1 : (a ||| b) % 2 = 1 := f1
      have g2 : (a &&& b) % 2 = 1 := f2
      have g3 : (a ^^^ b) % 2 = 0 := f3
      omega

end Go.Proofs.Yticcmbeikdemmaa
