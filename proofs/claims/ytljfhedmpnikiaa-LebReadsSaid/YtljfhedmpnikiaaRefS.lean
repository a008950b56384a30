/-
  The contract of the document's own reader's S. No condition beyond what such a reader is.
-/
import Derived.Test.YtljfhedmpnikiaaRefSPlain
namespace Go.Proofs.Ytljfhedmpnikiaa
open Go.RowKit

theorem grp_prtS {nb : Nat} : ∀ (l : List UInt8) (j low : Nat), match prt nb l j with
    | .inl k => grp nb l low (7 * j) = .inl k
    | .inr (ps, t) => ∃ a last s, grp nb l low (7 * j) = .inr (a, last, s, t) ∧ (a : Int) + topOf last * 2 ^ s = low + wOf ps * 2 ^ (7 * j)
  | [], j, low => by rw [prt]; rfl
  | b :: l, j, low => by
    rw [prt]
    by_cases hb : b.toNat < 128
    · rw [if_pos hb]
      exact ⟨low, b.toNat, 7 * j, by rw [grp, if_pos hb], rfl⟩
    · rw [if_neg hb]
      by_cases hl : nb ≤ 7 * j + 7
      · rw [if_pos hl]
        show grp nb (b :: l) low (7 * j) = .inl 11
        rw [grp, if_neg hb, if_pos hl]
      · rw [if_neg hl]
        have ih := grp_prtS (nb := nb) l (j + 1) (low + (b.toNat - 128) * 2 ^ (7 * j))
        have e : grp nb (b :: l) low (7 * j) = grp nb l (low + (b.toNat - 128) * 2 ^ (7 * j)) (7 * (j + 1)) := by
          rw [grp, if_neg hb, if_neg hl]; rfl
        rw [e]
        cases hp : prt nb l (j + 1) with
        | inl k =>
          rw [hp] at ih
          exact ih
        | inr r =>
          obtain ⟨ps, t⟩ := r
          rw [hp] at ih
          obtain ⟨a, last, s, h1, h2⟩ := ih
          refine ⟨a, last, s, h1, ?_⟩
          have hne : ps ≠ [] := by
            have := (prt_small hp).2
            intro h; rw [h] at this; simp at this
          rw [h2, wOf_cons _ hne, Int.natCast_add, Int.natCast_mul, ← two_pow_cast]
          show _ = _ + (((b.toNat - 128 : Nat) : Int) + 128 * wOf ps) * 2 ^ (7 * j)
          rw [Int.add_mul, show 7 * (j + 1) = 7 * j + 7 from rfl, Int.pow_add, show (2 : Int) ^ 7 = 128 from rfl, Int.mul_comm (2 ^ (7 * j)) 128, ← Int.mul_assoc, Int.mul_comm (wOf ps) 128]
          omega

theorem fitsS_iff {a s nb : Nat} {T : Int} (hs : s < nb) (ha : a < 2 ^ s) : Fits T (nb - s - 1) ↔ Fits ((a : Int) + T * 2 ^ s) (nb - 1) := by
  have e : ((a : Int) + T * 2 ^ s) / 2 ^ (nb - 1) = T / 2 ^ (nb - s - 1) := by
    rw [show nb - 1 = s + (nb - s - 1) by omega, Int.pow_add, ← Int.ediv_ediv_of_nonneg (Int.le_of_lt (Int.pow_pos (by decide)))]
    congr 1
    rw [two_pow_cast, Int.add_mul_ediv_right _ _ (by have := Nat.two_pow_pos s; omega), Int.ediv_eq_zero_of_lt (by omega) (by omega), Int.zero_add]
  unfold Fits
  rw [e]

theorem wOf_range : ∀ (ps : List Nat), (∀ p ∈ ps, p < 128) → ps ≠ [] → Fits (wOf ps) (7 * ps.length - 1)
  | [], _, h => absurd rfl h
  | [p], h, _ => by
    have hp : p < 128 := h p (by simp)
    show Fits (topOf p) 6
    unfold Fits topOf
    split <;> omega
  | p :: q :: ps, h, _ => by
    have hp : p < 128 := h p (by simp)
    have ih := wOf_range (q :: ps) (fun x hx => h x (by simp [hx])) (by simp)
    rw [wOf_cons p (by simp)]
    have hl : 7 * (p :: q :: ps).length - 1 = (7 * (q :: ps).length - 1) + 7 := by simp; omega
    rw [hl, ← fits_next]
    have e : ((p : Int) + 128 * wOf (q :: ps)) / 128 = wOf (q :: ps) := by omega
    rw [e]
    exact ih

/-- Where it fits all higher bits are as the sign's. -/
theorem fits_bits {W : Int} {c k : Nat} (h : Fits W c) (hk : c ≤ k) : W / 2 ^ k % 2 = W / 2 ^ c % 2 := by
  obtain ⟨d, rfl⟩ : ∃ d, k = c + d := ⟨k - c, by omega⟩
  have e : W / 2 ^ (c + d) = W / 2 ^ c / 2 ^ d := by
    rw [Int.pow_add, Int.ediv_ediv_of_nonneg (Int.le_of_lt (Int.pow_pos (by decide)))]
  rw [e]
  rcases h with h | h <;> rw [h]
  · rw [Int.zero_ediv]
  · have hp2 : (0 : Int) < 2 ^ d := Int.pow_pos (by decide)
    have := fits_more (m := -1) (c := 0) (c' := d) (.inr (by decide)) (by omega)
    rcases this with h | h
    · exfalso
      have h4 : (-1 : Int) / 2 ^ d < 0 := Int.ediv_neg_of_neg_of_pos (by decide) hp2
      omega
    · rw [h]

end Go.Proofs.Ytljfhedmpnikiaa
