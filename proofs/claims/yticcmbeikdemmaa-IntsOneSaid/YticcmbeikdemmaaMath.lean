/-
  What the document asks of integers, on plain numbers: no program in this text. No condition.
-/
import Derived.Laws.BitsLemmas
import Derived.Laws.Bits64
import Derived.Laws.Bits64b
namespace Go.Proofs.Yticcmbeikdemmaa
open Go



/-- There are integers of so many bits. -/
def Okn (n : Nat) : Prop := n = 8 ∨ n = 16 ∨ n = 32 ∨ n = 64

instance (n : Nat) : Decidable (Okn n) := by unfold Okn; exact inferInstance

theorem Okn.le {n : Nat} (h : Okn n) : 8 ≤ n ∧ n ≤ 64 := by unfold Okn at h; omega

/-- The value with a sign. -/
def sg (n a : Nat) : Int := if 2 ^ (n - 1) ≤ a then (a : Int) - (2 ^ n : Nat) else a

/-- Cut. -/
def toN (n : Nat) (z : Int) : Nat := (z % (2 ^ n : Nat)).toNat

/-- Quotients and rests; the error. -/
def divR (n op a b : Nat) : Nat × Nat :=
  if b = 0 then (0, 41)
  else if op = 5 then (a / b, 0)
  else if op = 7 then (a % b, 0)
  else if op = 6 then (toN n ((sg n a).tmod (sg n b)), 0)
  else if a = 2 ^ (n - 1) ∧ b = 2 ^ n - 1 then (0, 42) else (toN n ((sg n a).tdiv (sg n b)), 0)

/-- Shifted and rotated by k. -/
def shiftR (n op a k : Nat) : Nat :=
  if op = 11 then a * 2 ^ k % 2 ^ n
  else if op = 12 then toN n (sg n a / (2 ^ k : Nat))
  else if op = 13 then a / 2 ^ k
  else if op = 14 then ((a * 2 ^ k) ||| (a / 2 ^ (n - k))) % 2 ^ n
  else ((a * 2 ^ (n - k)) ||| (a / 2 ^ k)) % 2 ^ n

/-- The nearest number with a sign. -/
def clampS (n : Nat) (z : Int) : Int := if z < -((2 ^ (n - 1) : Nat) : Int) then -((2 ^ (n - 1) : Nat) : Int) else if ((2 ^ (n - 1) : Nat) : Int) - 1 < z then ((2 ^ (n - 1) : Nat) : Int) - 1 else z

/-- Sums and differences that are held. -/
def satR (n op a b : Nat) : Nat :=
  if op = 16 then toN n (clampS n (sg n a + sg n b))
  else if op = 18 then toN n (clampS n (sg n a - sg n b))
  else if op = 17 then (if 2 ^ n - 1 < a + b then 2 ^ n - 1 else a + b)
  else a - b

/-- The smaller and the larger one. -/
def mmR (n op a b : Nat) : Nat :=
  if op = 20 then (if sg n a < sg n b then a else b)
  else if op = 22 then (if sg n a < sg n b then b else a)
  else if op = 21 then (if a < b then a else b)
  else (if a < b then b else a)

/-- What two cut numbers come to; the error. -/
def binR (n op a b : Nat) : Nat × Nat :=
  if op = 1 then ((a + b) % 2 ^ n, 0)
  else if op = 2 then ((a + (2 ^ n - b)) % 2 ^ n, 0)
  else if op = 3 then (a * b % 2 ^ n, 0)
  else if op ≤ 7 then divR n op a b
  else if op = 8 then (a &&& b, 0)
  else if op = 9 then (a ||| b, 0)
  else if op = 10 then (a ^^^ b, 0)
  else if op ≤ 15 then (shiftR n op a (b % n), 0)
  else if op ≤ 19 then (satR n op a b, 0)
  else if op ≤ 23 then (mmR n op a b, 0)
  else if op = 24 then ((a + b + 1) / 2, 0)
  else (toN n (clampS n ((sg n a * sg n b + 16384) / 32768)), 0)

/-- How two cut numbers stand. -/
def relR (n op a b : Nat) : Bool :=
  if op = 1 then decide (a = b)
  else if op = 2 then decide (a ≠ b)
  else if op = 3 then decide (sg n a < sg n b)
  else if op = 4 then decide (a < b)
  else if op = 5 then decide (sg n b < sg n a)
  else if op = 6 then decide (b < a)
  else if op = 7 then decide (sg n a ≤ sg n b)
  else if op = 8 then decide (a ≤ b)
  else if op = 9 then decide (sg n b ≤ sg n a)
  else decide (b ≤ a)

/-- The 0 bits at the top, of so many. -/
def clzR : Nat → Nat → Nat
  | 0, _ => 0
  | m + 1, a => if a.testBit m then 0 else 1 + clzR m a

/-- The 0 bits at the bottom, of so many. -/
def ctzR : Nat → Nat → Nat
  | 0, _ => 0
  | m + 1, a => if a % 2 = 1 then 0 else 1 + ctzR m (a / 2)

/-- The 1 bits. -/
def pop (a : Nat) : Nat := if h : a = 0 then 0 else a % 2 + pop (a / 2)
termination_by a
decreasing_by omega

/-- What one cut number comes to. -/
def unR (n op a : Nat) : Nat :=
  if op = 1 then clzR n a
  else if op = 2 then ctzR n a
  else if op = 3 then pop a
  else if op = 4 then toN n (sg 8 (a % 2 ^ 8))
  else if op = 5 then toN n (sg 16 (a % 2 ^ 16))
  else if op = 6 then toN n (sg 32 (a % 2 ^ 32))
  else if op = 7 then (sg n a).natAbs
  else (2 ^ n - a) % 2 ^ n

theorem pow_lt64 {n : Nat} (hn : Okn n) : 2 ^ (n - 1) < 18446744073709551616 ∧ 0 < 2 ^ (n - 1) ∧ 2 ^ n ≤ 18446744073709551616 ∧ 2 ^ n = 2 * 2 ^ (n - 1) := by
  rcases hn with rfl | rfl | rfl | rfl <;> decide

theorem and_pow (x i : Nat) : x &&& 2 ^ i = (x.testBit i).toNat * 2 ^ i := by
  apply Nat.eq_of_testBit_eq
  intro j
  rw [Nat.testBit_and, Nat.testBit_two_pow, Nat.testBit_mul_two_pow]
  by_cases h : i = j
  · subst h
    cases x.testBit i <;> simp
  · by_cases h2 : i ≤ j
    · have h3 : (x.testBit i).toNat.testBit (j - i) = false := by
        apply Nat.testBit_lt_two_pow
        have : 2 ^ 1 ≤ 2 ^ (j - i) := Nat.pow_le_pow_right (by decide) (by omega)
        have := Bool.toNat_le (x.testBit i)
        omega
      simp [h, h3]
    · simp [h, h2]

theorem testBit_top {n x : Nat} (hn : Okn n) (hx : x < 2 ^ n) : x.testBit (n - 1) = decide (2 ^ (n - 1) ≤ x) := by
  obtain ⟨_, _, _, h⟩ := pow_lt64 hn
  rw [h] at hx
  generalize hP : 2 ^ (n - 1) = P at *
  rw [Nat.testBit_eq_decide_div_mod_eq, hP]
  by_cases hc : P ≤ x
  · have : x / P = 1 := by
      rw [Nat.div_eq_iff (by omega)]; omega
    simp [this, hc]
  · have : x / P = 0 := Nat.div_eq_of_lt (by omega)
    simp [this, hc]

theorem sg_abs {n x : Nat} (hx : x < 2 ^ n) : (sg n x).natAbs = if 2 ^ (n - 1) ≤ x then 2 ^ n - x else x := by
  unfold sg
  split <;> omega

theorem neg_mod {n x : Nat} (hn : Okn n) (hx : x < 2 ^ n) (hc : 2 ^ (n - 1) ≤ x) : (18446744073709551616 - x) % 18446744073709551616 % 2 ^ n = 2 ^ n - x := by
  rcases hn with rfl | rfl | rfl | rfl <;> simp at hx hc ⊢ <;> omega

theorem toN_nat {n : Nat} (q : Nat) : toN n (q : Int) = q % 2 ^ n := by
  unfold toN
  rw [← Int.natCast_emod, Int.toNat_natCast]

theorem toN_neg {n : Nat} (hn : Okn n) (q : Nat) (hq : q ≤ 18446744073709551616) : toN n (-(q : Int)) = (18446744073709551616 - q) % 18446744073709551616 % 2 ^ n := by
  unfold toN
  rcases hn with rfl | rfl | rfl | rfl <;> simp <;> omega

theorem sg_neg {n x : Nat} (hx : x < 2 ^ n) : sg n x < 0 ↔ 2 ^ (n - 1) ≤ x := by
  unfold sg
  split <;> omega

theorem tdiv_same {x y : Int} (h : x < 0 ↔ y < 0) : x.tdiv y = ((x.natAbs / y.natAbs : Nat) : Int) := by
  obtain ⟨m, rfl | rfl⟩ := Int.eq_nat_or_neg x <;> obtain ⟨k, rfl | rfl⟩ := Int.eq_nat_or_neg y
  · simp
  · by_cases hk : k = 0
    · subst hk; simp
    · omega
  · by_cases hm : m = 0
    · subst hm; simp
    · omega
  · simp [Int.neg_tdiv, Int.tdiv_neg]

theorem tdiv_other {x y : Int} (h : ¬ (x < 0 ↔ y < 0)) : x.tdiv y = -((x.natAbs / y.natAbs : Nat) : Int) := by
  obtain ⟨m, rfl | rfl⟩ := Int.eq_nat_or_neg x <;> obtain ⟨k, rfl | rfl⟩ := Int.eq_nat_or_neg y
  · omega
  · simp [Int.tdiv_neg]
  · simp [Int.neg_tdiv]
  · by_cases hm : m = 0
    · subst hm; simp
    · by_cases hk : k = 0
      · subst hk; simp
      · omega

theorem tmod_pos {x y : Int} (h : ¬ x < 0) : x.tmod y = ((x.natAbs % y.natAbs : Nat) : Int) := by
  obtain ⟨m, rfl | rfl⟩ := Int.eq_nat_or_neg x <;> obtain ⟨k, rfl | rfl⟩ := Int.eq_nat_or_neg y
  · rw [Int.natAbs_natCast, Int.natAbs_natCast, Int.ofNat_tmod]
  · rw [Int.natAbs_natCast, Int.natAbs_neg, Int.natAbs_natCast, Int.ofNat_tmod, Int.tmod_neg]
  · by_cases hm : m = 0
    · subst hm; simp
    · omega
  · by_cases hm : m = 0
    · subst hm; simp
    · omega

theorem tmod_negs {x y : Int} (h : x < 0) : x.tmod y = -((x.natAbs % y.natAbs : Nat) : Int) := by
  obtain ⟨m, rfl | rfl⟩ := Int.eq_nat_or_neg x <;> obtain ⟨k, rfl | rfl⟩ := Int.eq_nat_or_neg y
  · omega
  · omega
  · rw [Int.natAbs_neg, Int.natAbs_natCast, Int.natAbs_natCast, Int.ofNat_tmod, Int.neg_tmod]
  · rw [Int.natAbs_neg, Int.natAbs_neg, Int.natAbs_natCast, Int.natAbs_natCast, Int.ofNat_tmod, Int.neg_tmod, Int.tmod_neg]

end Go.Proofs.Yticcmbeikdemmaa
