/-
  Plain facts: the shortest bytes of a number, of either sign, are read as it was in as many bits as it needs, and more; in fewer bits they are refused. No walk in this text, no condition but those of each lemma.
-/
import Derived.Test.YtljfhedmpnikiaaRound
namespace Go.Proofs.Ytljfhedmpnikiaa

theorem grp_ulist {nb : Nat} (t : List UInt8) (x low sh : Nat) (hsh : sh < nb) (hx : x < 2 ^ (nb - sh)) :
    ∃ a last s, grp nb (ulist x ++ t) low sh = .inr (a, last, s, t) ∧ a + last * 2 ^ s = low + x * 2 ^ sh ∧ last / 2 ^ (nb - s) = 0 := by
  by_cases h : x < 128
  · rw [ulist_small h]
    refine ⟨low, x, sh, ?_, rfl, Nat.div_eq_of_lt hx⟩
    rw [List.cons_append, grp, toUInt8_toNat (by omega), if_pos h]; rfl
  · rw [ulist_big (by omega)]
    have hm : x % 128 < 128 := Nat.mod_lt _ (by decide)
    have h7 : sh + 7 < nb := by
      rcases Nat.lt_or_ge (sh + 7) nb with h7 | h7
      · exact h7
      · have : 2 ^ (nb - sh) ≤ 2 ^ 7 := Nat.pow_le_pow_right (by decide) (by omega)
        omega
    have hx' : x / 128 < 2 ^ (nb - (sh + 7)) := by
      have e : 2 ^ (nb - sh) = 128 * 2 ^ (nb - (sh + 7)) := by
        rw [show nb - sh = 7 + (nb - (sh + 7)) by omega, Nat.pow_add]
      rw [e] at hx
      exact Nat.div_lt_of_lt_mul hx
    obtain ⟨a, last, s, h1, h2, h3⟩ := grp_ulist t (x / 128) (low + x % 128 * 2 ^ sh) (sh + 7) (by omega) hx'
    refine ⟨a, last, s, ?_, ?_, h3⟩
    · rw [List.cons_append, grp, byte_big hm, if_neg (by omega), if_neg (by omega), Nat.add_sub_cancel, h1]
    · rw [h2, Nat.pow_add, Nat.add_assoc]
      congr 1
      have e : x = 128 * (x / 128) + x % 128 := (Nat.div_add_mod x 128).symm
      conv => rhs; rw [e, Nat.add_mul]
      rw [Nat.add_comm, show (2 ^ 7 : Nat) = 128 from rfl, Nat.mul_comm (2 ^ sh) 128, ← Nat.mul_assoc, Nat.mul_comm (x / 128)]
termination_by x
decreasing_by omega

theorem grp_ulist_few {nb : Nat} (t : List UInt8) (x low sh : Nat) (_hsh : sh < nb) (hx : 2 ^ (nb - sh) ≤ x) :
    grp nb (ulist x ++ t) low sh = .inl 11 ∨ ∃ a last s, grp nb (ulist x ++ t) low sh = .inr (a, last, s, t) ∧ last / 2 ^ (nb - s) ≠ 0 := by
  by_cases h : x < 128
  · rw [ulist_small h]
    refine .inr ⟨low, x, sh, ?_, ?_⟩
    · rw [List.cons_append, grp, toUInt8_toNat (by omega), if_pos h]; rfl
    · have := Nat.div_pos hx (Nat.two_pow_pos _)
      omega
  · rw [ulist_big (by omega)]
    have hm : x % 128 < 128 := Nat.mod_lt _ (by decide)
    rw [List.cons_append, grp, byte_big hm, if_neg (by omega)]
    by_cases h7 : nb ≤ sh + 7
    · rw [if_pos h7]; exact .inl rfl
    · rw [if_neg h7, Nat.add_sub_cancel]
      refine grp_ulist_few t (x / 128) _ (sh + 7) (by omega) ?_
      have e : 2 ^ (nb - sh) = 2 ^ (nb - (sh + 7)) * 128 := by
        rw [show nb - sh = (nb - (sh + 7)) + 7 by omega, Nat.pow_add]
      rw [e] at hx
      exact (Nat.le_div_iff_mul_le (by decide)).2 hx
termination_by x
decreasing_by omega

theorem uSpec_back {nb : Nat} (h1 : 1 ≤ nb) (h2 : nb ≤ 64) (t : List UInt8) (x : Nat) (hx : x < 2 ^ nb) : uSpec nb (ulist x ++ t) 0 = (x, t, 0) := by
  obtain ⟨a, last, s, e1, e2, e3⟩ := grp_ulist t x 0 0 h1 (by simpa using hx)
  rw [uSpec, if_neg (by omega), Int.toNat_natCast, e1]
  simp only []
  rw [if_pos e3, e2]
  simp

theorem uSpec_few {nb : Nat} (h1 : 1 ≤ nb) (h2 : nb ≤ 64) (x : Nat) (hx : 2 ^ nb ≤ x) : uSpec nb (ulist x) 0 = (0, [], 11) := by
  rw [uSpec, if_neg (by omega), Int.toNat_natCast]
  have h := grp_ulist_few [] x 0 0 h1 (by simpa using hx)
  rw [List.append_nil] at h
  rcases h with e1 | ⟨a, last, s, e1, e2⟩
  · rw [e1]; rfl
  · rw [e1]
    simp only []
    rw [if_neg e2]; rfl

theorem topOf_small {m : Int} (h : -64 ≤ m ∧ m < 64) : topOf (m % 128).toNat = m := by
  unfold topOf
  split <;> omega

/-- So many bits hold it. -/
def Fits (m : Int) (c : Nat) : Prop := m / 2 ^ c = 0 ∨ m / 2 ^ c = -1

theorem fits_next {m : Int} {c : Nat} : Fits (m / 128) c ↔ Fits m (c + 7) := by
  unfold Fits
  have e : m / 128 / 2 ^ c = m / 2 ^ (c + 7) := by
    rw [Int.ediv_ediv_of_nonneg (by decide), Int.pow_add, Int.mul_comm]
    rfl
  rw [e]

theorem fits_big {m : Int} {c : Nat} (h : ¬ (-64 ≤ m ∧ m < 64)) (hf : Fits m c) : 7 ≤ c := by
  rcases Nat.lt_or_ge c 7 with hc | hc
  · exfalso
    obtain ⟨h1, h2⟩ := top_range hf
    have hp : 2 ^ c ≤ 2 ^ 6 := Nat.pow_le_pow_right (by decide) (by omega)
    omega
  · exact hc

theorem grp_slist {nb : Nat} (t : List UInt8) (m : Int) (low sh : Nat) (hsh : sh < nb) (hx : Fits m (nb - sh - 1)) :
    ∃ a last s, grp nb (slist m ++ t) low sh = .inr (a, last, s, t) ∧ (a : Int) + topOf last * 2 ^ s = low + m * 2 ^ sh ∧ Fits (topOf last) (nb - s - 1) := by
  by_cases h : -64 ≤ m ∧ m < 64
  · rw [slist_small h]
    refine ⟨low, (m % 128).toNat, sh, ?_, by rw [topOf_small h], by rw [topOf_small h]; exact hx⟩
    rw [List.cons_append, grp, toUInt8_toNat (by omega), if_pos (by omega)]; rfl
  · rw [slist_big h]
    have h7 := fits_big h hx
    have hx' : Fits (m / 128) (nb - (sh + 7) - 1) := by
      rw [fits_next, show nb - (sh + 7) - 1 + 7 = nb - sh - 1 by omega]
      exact hx
    obtain ⟨a, last, s, h1, h2, h3⟩ := grp_slist t (m / 128) (low + (m % 128).toNat * 2 ^ sh) (sh + 7) (by omega) hx'
    refine ⟨a, last, s, ?_, ?_, h3⟩
    · rw [List.cons_append, grp, byte_big (by omega), if_neg (by omega), if_neg (by omega), Nat.add_sub_cancel, h1]
    · rw [h2, Int.pow_add]
      have hmm : ((m % 128).toNat : Int) = m % 128 := by omega
      rw [Int.natCast_add, Int.natCast_mul, hmm, ← two_pow_cast]
      have e : m = 128 * (m / 128) + m % 128 := (Int.mul_ediv_add_emod m 128).symm
      conv => rhs; rw [e, Int.add_mul]
      rw [show ((2 : Int) ^ 7) = 128 from rfl, Int.mul_comm (2 ^ sh) 128, ← Int.mul_assoc, Int.mul_comm (m / 128)]
      omega
termination_by m.natAbs
decreasing_by omega

theorem grp_slist_few {nb : Nat} (t : List UInt8) (m : Int) (low sh : Nat) (_hsh : sh < nb) (hx : ¬ Fits m (nb - sh - 1)) :
    grp nb (slist m ++ t) low sh = .inl 11 ∨ ∃ a last s, grp nb (slist m ++ t) low sh = .inr (a, last, s, t) ∧ ¬ Fits (topOf last) (nb - s - 1) := by
  by_cases h : -64 ≤ m ∧ m < 64
  · rw [slist_small h]
    refine .inr ⟨low, (m % 128).toNat, sh, ?_, by rw [topOf_small h]; exact hx⟩
    rw [List.cons_append, grp, toUInt8_toNat (by omega), if_pos (by omega)]; rfl
  · rw [slist_big h, List.cons_append, grp, byte_big (by omega), if_neg (by omega)]
    by_cases h7 : nb ≤ sh + 7
    · rw [if_pos h7]; exact .inl rfl
    · rw [if_neg h7, Nat.add_sub_cancel]
      refine grp_slist_few t (m / 128) _ (sh + 7) (by omega) ?_
      rw [fits_next, show nb - (sh + 7) - 1 + 7 = nb - sh - 1 by omega]
      exact hx
termination_by m.natAbs
decreasing_by omega

theorem sSpec_back {nb : Nat} (h1 : 1 ≤ nb) (h2 : nb ≤ 64) (t : List UInt8) (m : Int) (hx : Fits m (nb - 1)) : sSpec nb (slist m ++ t) 0 = (m, t, 0) := by
  obtain ⟨a, last, s, e1, e2, e3⟩ := grp_slist t m 0 0 h1 (by simpa using hx)
  rw [sSpec, if_neg (by omega), Int.toNat_natCast, e1]
  simp only []
  rw [if_pos (show _ ∨ _ from e3), e2]
  simp

theorem sSpec_few {nb : Nat} (h1 : 1 ≤ nb) (h2 : nb ≤ 64) (m : Int) (hx : ¬ Fits m (nb - 1)) : sSpec nb (slist m) 0 = (0, [], 11) := by
  rw [sSpec, if_neg (by omega), Int.toNat_natCast]
  have h := grp_slist_few [] m 0 0 h1 (by simpa using hx)
  rw [List.append_nil] at h
  rcases h with e1 | ⟨a, last, s, e1, e2⟩
  · rw [e1]; rfl
  · rw [e1]
    simp only []
    rw [if_neg (show ¬ (_ ∨ _) from e2)]; rfl

theorem fits_more {m : Int} {c c' : Nat} (h : Fits m c) (hc : c ≤ c') : Fits m c' := by
  obtain ⟨k, rfl⟩ : ∃ k, c' = c + k := ⟨c' - c, by omega⟩
  unfold Fits at *
  have e : m / 2 ^ (c + k) = m / 2 ^ c / 2 ^ k := by
    rw [Int.pow_add, Int.ediv_ediv_of_nonneg (Int.le_of_lt (Int.pow_pos (by decide)))]
  rw [e]
  rcases h with h | h <;> rw [h]
  · exact .inl (Int.zero_ediv _)
  · have hp : (0 : Int) < 2 ^ k := Int.pow_pos (by decide)
    right
    generalize (2 : Int) ^ k = p at *
    have h3 := Int.mul_ediv_add_emod (-1) p
    have h4 := Int.emod_nonneg (-1) (by omega : p ≠ 0)
    have h5 := Int.emod_lt_of_pos (-1) hp
    have h6 : -1 ≤ (-1) / p := by rw [Int.le_ediv_iff_mul_le hp]; omega
    have h7 : (-1) / p < 0 := Int.ediv_neg_of_neg_of_pos (by omega) hp
    omega

theorem fits_63 {m : Int} (h0 : -9223372036854775808 ≤ m) (h1 : m ≤ 9223372036854775807) : Fits m 63 := by
  unfold Fits
  rw [show ((2 : Int) ^ 63) = 9223372036854775808 from rfl]
  omega

end Go.Proofs.Ytljfhedmpnikiaa
