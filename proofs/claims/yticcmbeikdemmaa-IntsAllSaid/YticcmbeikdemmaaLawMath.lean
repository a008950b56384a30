/-
  What follows of the document's numbers: rotated and back, opposite twice, quotient and rest. No program in this text. Condition: the bits are 8, 16, 32 or 64, the numbers are cut.
-/
import Derived.Test.YticcmbeikdemmaaUnMath
namespace Go.Proofs.Yticcmbeikdemmaa
open Go

theorem rot_eq {x j m : Nat} (hx : x / 2 ^ m < 2 ^ j) : ((x * 2 ^ j) ||| (x / 2 ^ m)) % (2 ^ j * 2 ^ m) = (x % 2 ^ m) * 2 ^ j + x / 2 ^ m := by
  have h := Nat.two_pow_add_eq_or_of_lt hx x
  have hp := Nat.two_pow_pos j
  rw [Nat.mul_comm x, ← h, Nat.mod_mul, Nat.mul_add_mod, Nat.mod_eq_of_lt hx, Nat.mul_add_div hp, Nat.div_eq_of_lt hx, Nat.add_zero, Nat.mul_comm (x % 2 ^ m), Nat.add_comm]

theorem div_lt_pow {n x j : Nat} (hj : j ≤ n) (hx : x < 2 ^ n) : x / 2 ^ (n - j) < 2 ^ j := by
  rw [Nat.div_lt_iff_lt_mul (Nat.two_pow_pos _), ← Nat.pow_add, show j + (n - j) = n by omega]
  exact hx

theorem pow_split {n j : Nat} (hj : j ≤ n) : 2 ^ n = 2 ^ j * 2 ^ (n - j) := by
  rw [← Nat.pow_add, show j + (n - j) = n by omega]

theorem rotl_eq {n x j : Nat} (hj : j ≤ n) (hx : x < 2 ^ n) : shiftR n 14 x j = (x % 2 ^ (n - j)) * 2 ^ j + x / 2 ^ (n - j) := by
  rw [shiftR, if_neg (by decide), if_neg (by decide), if_neg (by decide), if_pos rfl, pow_split hj, rot_eq (div_lt_pow hj hx)]

theorem rotr_eq {n x j : Nat} (hj : j ≤ n) (hx : x < 2 ^ n) : shiftR n 15 x j = (x % 2 ^ j) * 2 ^ (n - j) + x / 2 ^ j := by
  have h := div_lt_pow (j := n - j) (by omega) hx
  rw [show n - (n - j) = j by omega] at h
  have e : 2 ^ n = 2 ^ (n - j) * 2 ^ j := by rw [← Nat.pow_add, show n - j + j = n by omega]
  rw [shiftR, if_neg (by decide), if_neg (by decide), if_neg (by decide), if_neg (by decide), e, rot_eq h]

theorem rotl_lt (n x j : Nat) : shiftR n 14 x j < 2 ^ n := by
  rw [shiftR, if_neg (by decide), if_neg (by decide), if_neg (by decide), if_pos rfl]
  exact Nat.mod_lt _ (Nat.two_pow_pos n)

theorem rot_back {n x j : Nat} (hj : j ≤ n) (hx : x < 2 ^ n) : shiftR n 15 (shiftR n 14 x j) j = x := by
  have h := div_lt_pow hj hx
  rw [rotr_eq hj (rotl_lt n x j), rotl_eq hj hx]
  have hp := Nat.two_pow_pos j
  rw [Nat.mul_comm (x % 2 ^ (n - j)), Nat.mul_add_mod, Nat.mod_eq_of_lt h, Nat.mul_add_div hp, Nat.div_eq_of_lt h, Nat.add_zero, Nat.mul_comm]
  exact Nat.div_add_mod x (2 ^ (n - j))

theorem pop_join : ∀ (j lo hi : Nat), hi < 2 ^ j → pop (lo * 2 ^ j + hi) = pop lo + pop hi
  | 0, lo, hi, h => by
    have : hi = 0 := by simpa using h
    subst this
    simp [pop_zero]
  | j + 1, lo, hi, h => by
    rw [Nat.pow_succ] at h ⊢
    have ih := pop_join j lo (hi / 2) (by omega)
    rw [pop_any (lo * (2 ^ j * 2) + hi), pop_any hi, ← Nat.mul_assoc]
    have h1 : (lo * 2 ^ j * 2 + hi) / 2 = lo * 2 ^ j + hi / 2 := by omega
    have h2 : (lo * 2 ^ j * 2 + hi) % 2 = hi % 2 := by omega
    rw [h1, h2, ih]
    omega

theorem pop_rot {n x j : Nat} (hj : j ≤ n) (hx : x < 2 ^ n) : pop (shiftR n 14 x j) = pop x := by
  have h := div_lt_pow hj hx
  rw [rotl_eq hj hx, pop_join _ _ _ h]
  have e := pop_join (n - j) (x / 2 ^ (n - j)) (x % 2 ^ (n - j)) (Nat.mod_lt _ (Nat.two_pow_pos _))
  rw [Nat.mul_comm (x / 2 ^ (n - j)), Nat.div_add_mod] at e
  omega

theorem neg_neg {n x : Nat} (hx : x < 2 ^ n) : (2 ^ n - (2 ^ n - x) % 2 ^ n) % 2 ^ n = x := by
  by_cases h : x = 0
  · subst h
    simp
  · rw [Nat.mod_eq_of_lt (show 2 ^ n - x < 2 ^ n by omega), Nat.mod_eq_of_lt (by omega)]
    omega

theorem add_neg {n x : Nat} (hx : x < 2 ^ n) : (x + (2 ^ n - x) % 2 ^ n) % 2 ^ n = 0 := by
  by_cases h : x = 0
  · subst h
    simp
  · rw [Nat.mod_eq_of_lt (show 2 ^ n - x < 2 ^ n by omega), show x + (2 ^ n - x) = 2 ^ n by omega]
    simp

theorem toN_lt (n : Nat) (z : Int) : toN n z < 2 ^ n := by
  have hp : (0 : Int) < ((2 ^ n : Nat) : Int) := by exact_mod_cast Nat.two_pow_pos n
  have h := Int.emod_lt_of_pos z hp
  have h0 := Int.emod_nonneg z (Int.ne_of_gt hp)
  unfold toN
  omega

theorem toN_cast (n : Nat) (z : Int) : ((toN n z : Nat) : Int) = z % ((2 ^ n : Nat) : Int) := by
  have hp : (0 : Int) < ((2 ^ n : Nat) : Int) := by exact_mod_cast Nat.two_pow_pos n
  have h0 := Int.emod_nonneg z (Int.ne_of_gt hp)
  unfold toN
  omega

theorem sg_mod (n x : Nat) : (sg n x) % ((2 ^ n : Nat) : Int) = (x : Int) % ((2 ^ n : Nat) : Int) := by
  unfold sg
  split
  · simp
  · rfl

theorem sg_toN {n : Nat} (hn : Okn n) {z : Int} (h1 : -((2 ^ (n - 1) : Nat) : Int) ≤ z) (h2 : z < ((2 ^ (n - 1) : Nat) : Int)) : sg n (toN n z) = z := by
  unfold sg toN
  rcases hn with rfl | rfl | rfl | rfl <;> simp at h1 h2 ⊢ <;> split <;> omega

/-- Quotient times what divides, and the rest, cut: the number. -/
theorem back_u {n x y : Nat} (hx : x < 2 ^ n) : ((x / y % 2 ^ n * y) % 2 ^ n + x % y) % 2 ^ n = x := by
  have h := Nat.div_add_mod x y
  rw [Nat.mod_add_mod, Nat.mod_eq_of_lt (Nat.lt_of_le_of_lt (Nat.div_le_self x y) hx), Nat.mul_comm, h, Nat.mod_eq_of_lt hx]

theorem back_s {n x y : Nat} (hx : x < 2 ^ n) : ((toN n ((sg n x).tdiv (sg n y)) * y) % 2 ^ n + toN n ((sg n x).tmod (sg n y))) % 2 ^ n = x := by
  have h := Int.mul_tdiv_add_tmod (sg n x) (sg n y)
  apply Int.ofNat_inj.1
  rw [Int.natCast_emod, Int.natCast_add, Int.natCast_emod, Int.natCast_mul, toN_cast, toN_cast, Int.emod_add_emod, Int.add_emod_emod]
  generalize hM : ((2 ^ n : Nat) : Int) = M
  have e : ((sg n x).tdiv (sg n y) % M * (y : Int) + (sg n x).tmod (sg n y)) % M = (sg n x) % M := by
    rw [Int.add_emod, Int.mul_emod, Int.emod_emod_of_dvd _ (Int.dvd_refl M), ← hM, ← sg_mod n y, hM, ← Int.mul_emod, ← Int.add_emod, Int.mul_comm, h]
  rw [e, ← hM, sg_mod, ← Int.natCast_emod, Nat.mod_eq_of_lt hx]

end Go.Proofs.Yticcmbeikdemmaa
