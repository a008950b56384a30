/-
  The bits of shifted and rotated numbers: no program in this text. Condition: the bits are 8, 16, 32 or 64, the number is cut.
-/
import Derived.Test.YticcmbeikdemmaaRefOf
namespace Go.Proofs.Yticcmbeikdemmaa
open Go

/-- Which bit stands at the j-th place. -/
def mvF (n op a k j : Nat) : Nat :=
  if op = 11 then (if k ≤ j then btN a (j - k) else 0)
  else if op = 12 then btN a (if n ≤ j + k then n - 1 else j + k)
  else if op = 13 then (if j + k < n then btN a (j + k) else 0)
  else if op = 14 then btN a ((j + n - k) % n)
  else btN a ((j + k + n) % n)

theorem mvF_le (n op a k j : Nat) : mvF n op a k j ≤ 1 := by
  unfold mvF
  repeat' split
  all_goals first | exact btN_le _ _ | omega

theorem high_bit {n a i : Nat} (ha : a < 2 ^ n) (hi : n ≤ i) : a.testBit i = false :=
  Nat.testBit_lt_two_pow (Nat.lt_of_lt_of_le ha (Nat.pow_le_pow_right (by decide) hi))

theorem sar_neg {n a k : Nat} (ha : a < 2 ^ n) : toN n (((a : Int) - (2 ^ n : Nat)) / (2 ^ k : Nat)) = 2 ^ n - ((2 ^ n - (a + 1)) / 2 ^ k + 1) := by
  have hp := Nat.two_pow_pos k
  obtain ⟨c, hc⟩ : ∃ c : Nat, c = 2 ^ n - (a + 1) := ⟨_, rfl⟩
  have e1 : (a : Int) - (2 ^ n : Nat) = -((c : Int) + 1) := by omega
  have hle : c / 2 ^ k ≤ c := Nat.div_le_self _ _
  have hd := Nat.div_add_mod c (2 ^ k)
  have hm := Nat.mod_lt c hp
  have e2 : -((c : Int) + 1) / ((2 ^ k : Nat) : Int) = -(((c / 2 ^ k : Nat) : Int) + 1) := by
    obtain ⟨Q, hQ⟩ : ∃ Q : Nat, Q = c / 2 ^ k := ⟨_, rfl⟩
    obtain ⟨R, hR⟩ : ∃ R : Nat, R = c % 2 ^ k := ⟨_, rfl⟩
    rw [← hQ, ← hR] at hd
    rw [← hR] at hm
    rw [← hQ]
    generalize 2 ^ k = M at *
    have e3 : -((c : Int) + 1) = ((M : Int) - 1 - R) + M * -((Q : Int) + 1) := by
      have : (c : Int) = M * Q + R := by exact_mod_cast hd.symm
      rw [this, Int.mul_neg, Int.mul_add, Int.mul_one]
      omega
    rw [e3, Int.add_mul_ediv_left _ _ (by omega), Int.ediv_eq_zero_of_lt (by omega) (by omega)]
    omega
  rw [e1, e2, ← hc]
  unfold toN
  clear e2 hd hm
  have h2n : c < 2 ^ n := by omega
  generalize c / 2 ^ k = Q at *
  have h3 : -((Q : Int) + 1) = (((2 ^ n - (Q + 1) : Nat) : Int)) + ((2 ^ n : Nat) : Int) * -1 := by omega
  rw [h3, Int.add_mul_emod_self_left, ← Int.natCast_emod, Int.toNat_natCast, Nat.mod_eq_of_lt (by omega)]

theorem move_bits {n op a k : Nat} (hn : Okn n) (h1 : 11 ≤ op) (h2 : op ≤ 15) (ha : a < 2 ^ n) (hk : k < n) : ofF n (mvF n op a k) = shiftR n op a k := by
  have hn8 := hn.le
  have hop : op = 11 ∨ op = 12 ∨ op = 13 ∨ op = 14 ∨ op = 15 := by omega
  rcases hop with rfl | rfl | rfl | rfl | rfl
  · rw [shiftR, if_pos rfl]
    refine ofF_eq (fun j => mvF_le n 11 a k j) (Nat.mod_lt _ (Nat.two_pow_pos n)) (fun i hi => ?_)
    rw [Nat.testBit_mod_two_pow, Nat.testBit_mul_two_pow, mvF, if_pos rfl]
    by_cases h : k ≤ i
    · simp [h, hi, btN_bit]
    · simp [h]
  · rw [shiftR, if_neg (by decide), if_pos rfl]
    have htop := testBit_top hn ha
    by_cases hc : 2 ^ (n - 1) ≤ a
    · have e : sg n a = (a : Int) - (2 ^ n : Nat) := by unfold sg; rw [if_pos hc]
      rw [e, sar_neg ha]
      refine ofF_eq (fun j => mvF_le n 12 a k j) (Nat.sub_lt (Nat.two_pow_pos n) (Nat.succ_pos _)) (fun i hi => ?_)
      have hcl : (2 ^ n - (a + 1)) / 2 ^ k < 2 ^ n := Nat.lt_of_le_of_lt (Nat.div_le_self _ _) (by omega)
      rw [Nat.testBit_two_pow_sub_succ hcl, Nat.testBit_div_two_pow, Nat.testBit_two_pow_sub_succ ha, mvF, if_neg (by decide), if_pos rfl, btN_bit]
      by_cases h : n ≤ i + k
      · have : ¬ i + k < n := by omega
        rw [if_pos h, htop]
        simp [hi, this, hc]
      · have : i + k < n := by omega
        rw [if_neg h]
        simp [hi, this]
    · have e : sg n a = (a : Int) := by unfold sg; rw [if_neg hc]
      have hd : a / 2 ^ k ≤ a := Nat.div_le_self _ _
      rw [e, ← Int.natCast_ediv, toN_nat, Nat.mod_eq_of_lt (by omega)]
      refine ofF_eq (fun j => mvF_le n 12 a k j) (by omega) (fun i hi => ?_)
      rw [Nat.testBit_div_two_pow, mvF, if_neg (by decide), if_pos rfl, btN_bit]
      by_cases h : n ≤ i + k
      · rw [if_pos h, htop, high_bit ha h]
        simp [hc]
      · rw [if_neg h]
  · rw [shiftR, if_neg (by decide), if_neg (by decide), if_pos rfl]
    have hd : a / 2 ^ k ≤ a := Nat.div_le_self _ _
    refine ofF_eq (fun j => mvF_le n 13 a k j) (by omega) (fun i hi => ?_)
    rw [Nat.testBit_div_two_pow, mvF, if_neg (by decide), if_neg (by decide), if_pos rfl]
    by_cases h : i + k < n
    · rw [if_pos h, btN_bit]
    · rw [if_neg h, high_bit ha (by omega)]
      rfl
  · rw [shiftR, if_neg (by decide), if_neg (by decide), if_neg (by decide), if_pos rfl]
    refine ofF_eq (fun j => mvF_le n 14 a k j) (Nat.mod_lt _ (Nat.two_pow_pos n)) (fun i hi => ?_)
    rw [Nat.testBit_mod_two_pow, Nat.testBit_or, Nat.testBit_mul_two_pow, Nat.testBit_div_two_pow, mvF, if_neg (by decide), if_neg (by decide), if_neg (by decide), if_pos rfl, btN_bit]
    by_cases h : k ≤ i
    · have e : (i + n - k) % n = i - k := by rw [show i + n - k = (i - k) + n by omega, Nat.add_mod_right, Nat.mod_eq_of_lt (by omega)]
      rw [e, high_bit ha (show n ≤ i + (n - k) by omega)]
      simp [h, hi]
    · have e : (i + n - k) % n = i + (n - k) := by rw [show i + n - k = i + (n - k) by omega, Nat.mod_eq_of_lt (by omega)]
      rw [e]
      simp [h, hi]
  · rw [shiftR, if_neg (by decide), if_neg (by decide), if_neg (by decide), if_neg (by decide)]
    refine ofF_eq (fun j => mvF_le n 15 a k j) (Nat.mod_lt _ (Nat.two_pow_pos n)) (fun i hi => ?_)
    rw [Nat.testBit_mod_two_pow, Nat.testBit_or, Nat.testBit_mul_two_pow, Nat.testBit_div_two_pow, mvF, if_neg (by decide), if_neg (by decide), if_neg (by decide), if_neg (by decide), btN_bit]
    by_cases h : i + k < n
    · have e : (i + k + n) % n = i + k := by rw [Nat.add_mod_right, Nat.mod_eq_of_lt h]
      have h' : ¬ n - k ≤ i := by omega
      rw [e]
      simp [h', hi]
    · have e : (i + k + n) % n = i - (n - k) := by
        rw [Nat.add_mod_right, show i + k = (i - (n - k)) + n by omega, Nat.add_mod_right, Nat.mod_eq_of_lt (by omega)]
      have h' : n - k ≤ i := by omega
      rw [e, high_bit ha (show n ≤ i + k by omega)]
      simp [h', hi]

end Go.Proofs.Yticcmbeikdemmaa
