/-
  Plain facts on the parts of a number of either sign: its bits, its value, where it fits. No walk in this text, no condition but those of each lemma.
-/
import Derived.Test.YtljfhedmpnikiaaRefU
import Derived.Test.YtljfhedmpnikiaaBackPlain
namespace Go.Proofs.Ytljfhedmpnikiaa

/-- What parts of seven bits come to, the last one with its sign. -/
def wOf : List Nat → Int
  | [] => 0
  | p :: ps => if ps = [] then topOf p else p + 128 * wOf ps

theorem wOf_cons (p : Nat) {ps : List Nat} (h : ps ≠ []) : wOf (p :: ps) = p + 128 * wOf ps := by rw [wOf, if_neg h]

theorem top_bit {p : Nat} (hp : p < 128) (k : Nat) : topOf p / 2 ^ k % 2 = ((if k < 7 then p / 2 ^ k % 2 else p / 64 % 2 : Nat) : Int) := by
  by_cases hk : k < 7
  · rw [if_pos hk]
    rcases (show k = 0 ∨ k = 1 ∨ k = 2 ∨ k = 3 ∨ k = 4 ∨ k = 5 ∨ k = 6 by omega) with rfl | rfl | rfl | rfl | rfl | rfl | rfl <;> (unfold topOf; split <;> omega)
  · rw [if_neg hk]
    have h128 : (2 : Int) ^ k = 128 * 2 ^ (k - 7) := by
      rw [show (128 : Int) = 2 ^ 7 from rfl, ← Int.pow_add, show 7 + (k - 7) = k by omega]
    have hp2 : (0 : Int) < 2 ^ (k - 7) := Int.pow_pos (by decide)
    rw [h128, ← Int.ediv_ediv_of_nonneg (by decide)]
    unfold topOf
    split
    · have : (p : Int) / 128 = 0 := by omega
      rw [this, Int.zero_ediv]; omega
    · have : ((p : Int) - 128) / 128 = -1 := by omega
      rw [this]
      have h3 : (-1 : Int) / 2 ^ (k - 7) = -1 := by
        have := fits_more (m := -1) (c := 0) (c' := k - 7) (.inr (by decide)) (by omega)
        rcases this with h | h
        · exfalso
          have h4 : (-1 : Int) / 2 ^ (k - 7) < 0 := Int.ediv_neg_of_neg_of_pos (by decide) hp2
          omega
        · exact h
      rw [h3]; omega

theorem wOf_bit : ∀ (ps : List Nat) (k : Nat), (∀ p ∈ ps, p < 128) → ps ≠ [] → wOf ps / 2 ^ k % 2 = (bitOf ps k true : Int)
  | [], _, _, h => absurd rfl h
  | [p], k, h, _ => by
    have hp : p < 128 := h p (by simp)
    rw [show wOf [p] = topOf p from rfl, top_bit hp k]
    by_cases hk : k < 7
    · rw [if_pos hk, bitOf, if_pos (show k < 7 * [p].length from hk), partBit, Nat.div_eq_of_lt hk, Nat.mod_eq_of_lt hk]
      rfl
    · rw [if_neg hk, bitOf, if_neg (show ¬ k < 7 * [p].length from hk), if_pos rfl, show partBit [p] (7 * [p].length - 1) = p / 64 % 2 by simp [partBit]]
  | p :: q :: ps, k, h, _ => by
    have hp : p < 128 := h p (by simp)
    rw [wOf_cons p (by simp)]
    by_cases hk : k < 7
    · have e1 : bitOf (p :: q :: ps) k true = p / 2 ^ k % 2 := by
        rw [bitOf, if_pos (by show k < 7 * (ps.length + 1 + 1); omega), partBit, Nat.div_eq_of_lt hk, Nat.mod_eq_of_lt hk]; rfl
      rw [e1]
      generalize wOf (q :: ps) = W
      rcases (show k = 0 ∨ k = 1 ∨ k = 2 ∨ k = 3 ∨ k = 4 ∨ k = 5 ∨ k = 6 by omega) with rfl | rfl | rfl | rfl | rfl | rfl | rfl <;> omega
    · obtain ⟨m, rfl⟩ : ∃ m, k = m + 7 := ⟨k - 7, by omega⟩
      have e1 : bitOf (p :: q :: ps) (m + 7) true = bitOf (q :: ps) m true := by
        unfold bitOf
        have hl : (p :: q :: ps).length = (q :: ps).length + 1 := rfl
        have hl2 : 1 ≤ (q :: ps).length := by simp
        rw [hl]
        generalize hL : (q :: ps).length = L at *
        by_cases hm : m < 7 * L
        · rw [if_pos (by omega), if_pos hm, partBit, partBit, Nat.add_div_right _ (by decide), Nat.add_mod_right]
          rfl
        · rw [if_neg (by omega), if_neg hm]
          show partBit _ _ = partBit _ _
          rw [show 7 * (L + 1) - 1 = (7 * L - 1) + 7 by omega, partBit, partBit, Nat.add_div_right _ (by decide), Nat.add_mod_right]
          rfl
      have e2 : ((p : Int) + 128 * wOf (q :: ps)) / 2 ^ (m + 7) = wOf (q :: ps) / 2 ^ m := by
        rw [Int.pow_add, Int.mul_comm ((2 : Int) ^ m), ← Int.ediv_ediv_of_nonneg (by decide), show (2 : Int) ^ 7 = 128 from rfl]
        congr 1
        omega
      rw [e1, e2, wOf_bit (q :: ps) m (fun x hx => h x (by simp [hx])) (by simp)]

end Go.Proofs.Ytljfhedmpnikiaa
