/-
  Plain facts: what is written is read as it was, in as many bits as it needs, and more; and longer than it needs. No walk in this text. No condition but those of each lemma.
-/
import Derived.Test.YtljfhedmpnikiaaNumbers
namespace Go.Proofs.Ytljfhedmpnikiaa

/-- The bytes of an unsigned number, in k more than it needs. -/
def ulong (x k : Nat) : List UInt8 :=
  if h : x < 128 ∧ k = 0 then [x.toUInt8] else (x % 128 + 128).toUInt8 :: ulong (x / 128) (if x < 128 then k - 1 else k)
termination_by x + k
decreasing_by
  split <;> omega

theorem ulong_small {x : Nat} (h : x < 128) : ulong x 0 = [x.toUInt8] := by rw [ulong, dif_pos ⟨h, rfl⟩]
theorem ulong_cons {x k : Nat} (h : ¬ (x < 128 ∧ k = 0)) : ulong x k = (x % 128 + 128).toUInt8 :: ulong (x / 128) (if x < 128 then k - 1 else k) := by rw [ulong, dif_neg h]

theorem ulong_pos (x k : Nat) : 1 ≤ (ulong x k).length := by
  by_cases h : x < 128 ∧ k = 0
  · obtain ⟨h, rfl⟩ := h
    rw [ulong_small h]; simp
  · rw [ulong_cons h]; simp

theorem ulong_zero (x : Nat) : ulong x 0 = ulist x := by
  by_cases h : x < 128
  · rw [ulong_small h, ulist_small h]
  · rw [ulong_cons (by omega), ulist_big (by omega), if_neg h, ulong_zero (x / 128)]
termination_by x
decreasing_by omega

theorem ulong_length (x k : Nat) : (ulong x k).length = (ulist x).length + k := by
  by_cases h : x < 128
  · induction k generalizing x with
    | zero => rw [ulong_zero]; rfl
    | succ k ih =>
      rw [ulong_cons (by omega), if_pos h, List.length_cons, Nat.add_sub_cancel, ih (x / 128) (by omega), ulist_small h, ulist_small (show x / 128 < 128 by omega)]
      simp; omega
  · rw [ulong_cons (by omega), if_neg h, List.length_cons, ulong_length (x / 128) k, ulist_big (show 128 ≤ x by omega), List.length_cons]
    omega
termination_by x
decreasing_by omega

/-- One byte more: the last one gets the bit 128, and a 0 comes behind. -/
theorem ulong_more (x k m : Nat) (hm : (ulong x k).length = m + 1) :
    ∃ d : Nat, d < 128 ∧ (ulong x k)[m]? = some d.toUInt8 ∧ (ulong x k).set m (d + 128).toUInt8 ++ [0] = ulong x (k + 1) := by
  by_cases h : x < 128 ∧ k = 0
  · obtain ⟨h, rfl⟩ := h
    rw [ulong_small h] at hm ⊢
    obtain rfl : m = 0 := by simpa using hm.symm
    refine ⟨x, h, rfl, ?_⟩
    rw [ulong_cons (by omega), if_pos h, Nat.div_eq_of_lt h, Nat.zero_add, Nat.sub_self, ulong_small (by decide), Nat.mod_eq_of_lt h]
    rfl
  · rw [ulong_cons h] at hm ⊢
    have hp := ulong_pos (x / 128) (if x < 128 then k - 1 else k)
    obtain ⟨j, rfl⟩ : ∃ j, m = j + 1 := ⟨m - 1, by simp at hm; omega⟩
    obtain ⟨d, h1, h2, h3⟩ := ulong_more (x / 128) (if x < 128 then k - 1 else k) j (by simpa using hm)
    refine ⟨d, h1, by simpa using h2, ?_⟩
    rw [List.set_cons_succ, List.cons_append, h3, ulong_cons (k := k + 1) (by omega)]
    congr 2
    split <;> omega
termination_by x + k
decreasing_by split <;> omega

theorem byte_big {d : Nat} (h : d < 128) : ((d + 128).toUInt8).toNat = d + 128 := toUInt8_toNat (by omega)

/-- Read back, as long as the bits allow so many bytes. -/
theorem grp_ulong {nb : Nat} (t : List UInt8) (x k low sh : Nat) (hsh : sh < nb) (hx : x < 2 ^ (nb - sh)) (hl : (ulong x k).length * 7 + sh < nb + 7) :
    ∃ a last s, grp nb (ulong x k ++ t) low sh = .inr (a, last, s, t) ∧ a + last * 2 ^ s = low + x * 2 ^ sh ∧ last / 2 ^ (nb - s) = 0 := by
  by_cases h : x < 128 ∧ k = 0
  · obtain ⟨h, rfl⟩ := h
    rw [ulong_small h]
    refine ⟨low, x, sh, ?_, rfl, Nat.div_eq_of_lt hx⟩
    rw [List.cons_append, grp, toUInt8_toNat (by omega), if_pos h]; rfl
  · rw [ulong_cons h] at hl ⊢
    have hp := ulong_pos (x / 128) (if x < 128 then k - 1 else k)
    rw [List.length_cons] at hl
    have hm : x % 128 < 128 := Nat.mod_lt _ (by decide)
    have hx' : x / 128 < 2 ^ (nb - (sh + 7)) := by
      have e : 2 ^ (nb - sh) = 128 * 2 ^ (nb - (sh + 7)) := by
        rw [show nb - sh = 7 + (nb - (sh + 7)) by omega, Nat.pow_add]
      rw [e] at hx
      exact Nat.div_lt_of_lt_mul hx
    obtain ⟨a, last, s, h1, h2, h3⟩ := grp_ulong t (x / 128) (if x < 128 then k - 1 else k) (low + x % 128 * 2 ^ sh) (sh + 7) (by omega) hx' (by omega)
    refine ⟨a, last, s, ?_, ?_, h3⟩
    · rw [List.cons_append, grp, byte_big hm, if_neg (by omega), if_neg (by omega), Nat.add_sub_cancel, h1]
    · rw [h2, Nat.pow_add, Nat.add_assoc]
      congr 1
      have e : x = 128 * (x / 128) + x % 128 := (Nat.div_add_mod x 128).symm
      conv => rhs; rw [e, Nat.add_mul]
      rw [Nat.add_comm, show (2 ^ 7 : Nat) = 128 from rfl, Nat.mul_comm (2 ^ sh) 128, ← Nat.mul_assoc, Nat.mul_comm (x / 128)]
termination_by x + k
decreasing_by split <;> omega

/-- Too many bytes for the bits. -/
theorem grp_ulong_long {nb : Nat} (t : List UInt8) (x k low sh : Nat) (hsh : sh < nb) (hl : nb + 7 ≤ (ulong x k).length * 7 + sh) :
    grp nb (ulong x k ++ t) low sh = .inl 11 := by
  by_cases h : x < 128 ∧ k = 0
  · obtain ⟨h, rfl⟩ := h
    rw [ulong_small h] at hl
    simp at hl; omega
  · rw [ulong_cons h] at hl ⊢
    rw [List.length_cons] at hl
    have hm : x % 128 < 128 := Nat.mod_lt _ (by decide)
    rw [List.cons_append, grp, byte_big hm, if_neg (by omega)]
    split
    · rfl
    · rw [Nat.add_sub_cancel]
      exact grp_ulong_long t (x / 128) (if x < 128 then k - 1 else k) _ (sh + 7) (by omega) (by omega)
termination_by x + k
decreasing_by split <;> omega

theorem uSpec_ulong {nb : Nat} (h1 : 1 ≤ nb) (h2 : nb ≤ 64) (t : List UInt8) (x k : Nat) (hx : x < 2 ^ nb) (hl : (ulong x k).length * 7 < nb + 7) :
    uSpec nb (ulong x k ++ t) 0 = (x, t, 0) := by
  obtain ⟨a, last, s, e1, e2, e3⟩ := grp_ulong t x k 0 0 h1 (by simpa using hx) (by simpa using hl)
  rw [uSpec, if_neg (by omega), Int.toNat_natCast, e1]
  simp only []
  rw [if_pos e3, e2]
  simp

theorem uSpec_long {nb : Nat} (h1 : 1 ≤ nb) (h2 : nb ≤ 64) (t : List UInt8) (x k : Nat) (hl : nb + 7 ≤ (ulong x k).length * 7) :
    uSpec nb (ulong x k ++ t) 0 = (0, [], 11) := by
  rw [uSpec, if_neg (by omega), Int.toNat_natCast, grp_ulong_long t x k 0 0 h1 (by simpa using hl)]
  rfl

end Go.Proofs.Ytljfhedmpnikiaa
