/-
  Plain facts on UTF-8: the model's decoder at a place, and where U+FFFD is meant. No program in this text, no condition.
-/
import Derived.Lib.DecodeN
import Derived.Laws.RangeAny
namespace Go.Proofs.Ytljfhedmpnikiaa
open Go

/-- UTF-8 from a place on: no step of the decoder is an error of width 1. -/
def vfrom (s : ByteArray) : Nat → Nat → Bool
  | 0, _ => true
  | f + 1, i => if i < s.size then (if (Utf8.decode s i).1 = 65533 ∧ (Utf8.decode s i).2 = 1 then false else vfrom s f (i + (Utf8.decode s i).2)) else true

theorem vfrom_end (s : ByteArray) (f i : Nat) (h : ¬ i < s.size) : vfrom s f i = true := by
  cases f with
  | zero => rfl
  | succ f => rw [vfrom, if_neg h]

theorem width_pos (s : ByteArray) (pos : Nat) (h : pos < s.size) : 1 ≤ (Utf8.decode s pos).2 := by
  by_cases ha : (s[pos]'h).toNat < 128
  · rw [decode_ascii s pos h ha]
    exact Nat.le_refl _
  · exact (decode_high s pos h (by omega)).2

theorem vfrom_fuel (s : ByteArray) : ∀ (f f' i : Nat), s.size ≤ i + f → s.size ≤ i + f' → vfrom s f i = vfrom s f' i
  | 0, f', i, h, h' => by rw [vfrom_end s 0 i (by omega), vfrom_end s f' i (by omega)]
  | f + 1, 0, i, h, h' => by rw [vfrom_end s 0 i (by omega), vfrom_end s (f + 1) i (by omega)]
  | f + 1, f' + 1, i, h, h' => by
    by_cases hi : i < s.size
    · have := width_pos s i hi
      rw [vfrom, vfrom, if_pos hi, if_pos hi, vfrom_fuel s f f' _ (by omega) (by omega)]
    · rw [vfrom_end s _ i hi, vfrom_end s _ i hi]

theorem get_byte (s : ByteArray) (i : Nat) : (s.get! i).toNat = ((s.data.toList[i]?).map UInt8.toNat).getD 0 := by
  by_cases h : i < s.size
  · have h2 : i < s.data.size := h
    have e : s.get! i = s.data[i] := by
      show s.data[i]! = _
      exact getElem!_pos s.data i h2
    rw [e, List.getElem?_eq_getElem (by simpa using h2)]
    simp
  · have h2 : ¬ i < s.data.size := h
    have e : s.get! i = 0 := by
      show s.data[i]! = _
      exact getElem!_neg s.data i h2
    rw [e, List.getElem?_eq_none (by simpa using h2)]
    rfl

theorem decodeN_fffd (n b0 b1 b2 b3 : Nat) (h0 : b0 < 256) (hc : (Lib.decodeN n b0 b1 b2 b3).1 = 65533) :
    (Lib.decodeN n b0 b1 b2 b3).2 ≠ 1 ↔ (2 < n ∧ b0 = 239 ∧ b1 = 191 ∧ b2 = 189) := by
  revert hc
  unfold Lib.decodeN
  by_cases c0 : b0 < 128
  · rw [if_pos c0]; intro hc; simp only at hc; omega
  rw [if_neg c0]
  by_cases c1 : b0 / 32 = 6 ∧ (1 < n ∧ b1 / 64 = 2)
  · rw [if_pos c1]
    split
    · intro hc; simp only at hc; omega
    · intro _; simp; omega
  rw [if_neg c1]
  by_cases c2 : b0 / 16 = 14 ∧ (1 < n ∧ b1 / 64 = 2) ∧ (2 < n ∧ b2 / 64 = 2)
  · rw [if_pos c2]
    split
    · intro hc; simp only at hc; simp; omega
    · intro _; simp; omega
  rw [if_neg c2]
  by_cases c3 : b0 / 8 = 30 ∧ (1 < n ∧ b1 / 64 = 2) ∧ (2 < n ∧ b2 / 64 = 2) ∧ (3 < n ∧ b3 / 64 = 2)
  · rw [if_pos c3]
    split
    · intro hc; simp only at hc; omega
    · intro _; simp; omega
  rw [if_neg c3]
  intro _; simp; omega

theorem take3_iff (l : List UInt8) (pos : Nat) : (l.drop pos).take 3 = [239, 191, 189] ↔
    (pos + 2 < l.length ∧ ((l[pos]?).map UInt8.toNat).getD 0 = 239 ∧ ((l[pos + 1]?).map UInt8.toNat).getD 0 = 191 ∧ ((l[pos + 2]?).map UInt8.toNat).getD 0 = 189) := by
  constructor
  · intro h
    have hlen := congrArg List.length h
    simp only [List.length_take, List.length_drop, List.length_cons, List.length_nil] at hlen
    have e : ∀ j, j < 3 → l[pos + j]? = ([239, 191, 189] : List UInt8)[j]? := by
      intro j hj
      rw [← h, List.getElem?_take, if_pos hj, List.getElem?_drop]
    have e0 := e 0 (by omega)
    have e1 := e 1 (by omega)
    have e2 := e 2 (by omega)
    simp only [Nat.add_zero] at e0
    rw [e0, e1, e2]
    exact ⟨by omega, rfl, rfl, rfl⟩
  · rintro ⟨hl, h0, h1, h2⟩
    rw [List.getElem?_eq_getElem (by omega)] at h0 h1 h2
    simp only [Option.map_some, Option.getD_some] at h0 h1 h2
    rw [List.drop_eq_getElem_cons (by omega), List.drop_eq_getElem_cons (by omega), List.drop_eq_getElem_cons (by omega)]
    simp only [List.take_succ_cons, List.take_zero]
    have f0 : l[pos] = 239 := UInt8.toNat_inj.1 h0
    have f1 : l[pos + 1] = 191 := UInt8.toNat_inj.1 h1
    have f2 : l[pos + 1 + 1] = 189 := UInt8.toNat_inj.1 h2
    rw [f0, f1, f2]

/-- Where the decoder gives U+FFFD, it stands there, or it is an error of width 1. -/
theorem fffd_iff (s : ByteArray) (pos : Nat) (hc : (Utf8.decode s pos).1 = 65533) : (s.data.toList.drop pos).take 3 = [239, 191, 189] ↔ ¬ (Utf8.decode s pos).2 = 1 := by
  have hb : ∀ i, (s.get! i).toNat < 256 := fun i => (s.get! i).toNat_lt
  rw [Lib.decode_at] at hc ⊢
  rw [show (¬ (Lib.decodeN (s.size - pos) (s.get! pos).toNat (s.get! (pos + 1)).toNat (s.get! (pos + 2)).toNat (s.get! (pos + 3)).toNat).2 = 1) ↔ _ from decodeN_fffd _ _ _ _ _ (hb _) hc, take3_iff, ← get_byte, ← get_byte, ← get_byte]
  have : s.data.toList.length = s.size := rfl
  rw [this]
  constructor
  · rintro ⟨a, b⟩; exact ⟨by omega, b⟩
  · rintro ⟨a, b⟩; exact ⟨by omega, b⟩

end Go.Proofs.Ytljfhedmpnikiaa
