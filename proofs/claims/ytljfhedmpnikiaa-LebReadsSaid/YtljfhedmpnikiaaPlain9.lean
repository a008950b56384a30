/-
  Plain facts on UTF-8: the decoder's step by the kind of its first byte, as sums and products. No program in this text, no condition but those of each lemma.
-/
import Derived.Test.YtljfhedmpnikiaaPlain8
namespace Go.Proofs.Ytljfhedmpnikiaa
open Go

def byt (s : ByteArray) (i : Nat) : Nat := (s.get! i).toNat
theorem byt_lt (s : ByteArray) (i : Nat) : byt s i < 256 := (s.get! i).toNat_lt
theorem byt_eq (s : ByteArray) (i : Nat) (h : i < s.size) : (s[i]'h).toNat = byt s i := by
  have h2 : i < s.data.size := h
  have e : s.get! i = s.data[i] := by
    show s.data[i]! = _
    exact getElem!_pos s.data i h2
  unfold byt
  rw [e]
  rfl

/-- The number behind j following bytes. -/
def cvv (s : ByteArray) (pos c0 : Nat) : Nat → Nat
  | 0 => c0
  | j + 1 => cvv s pos c0 j * 64 + (byt s (pos + (j + 1)) - 128)

theorem cvv_le (s : ByteArray) (pos c0 : Nat) (h : c0 ≤ 31) : ∀ j, cvv s pos c0 j + 3 ≤ 34 * 64 ^ j
  | 0 => by
    show c0 + 3 ≤ 34 * 1
    omega
  | j + 1 => by
    have h1 := cvv_le s pos c0 h j
    have hb := byt_lt s (pos + (j + 1))
    show cvv s pos c0 j * 64 + (byt s (pos + (j + 1)) - 128) + 3 ≤ _
    rw [Nat.pow_succ]
    omega

theorem cvv_small (s : ByteArray) (pos c0 j : Nat) (h : c0 ≤ 31) (hj : j ≤ 3) : cvv s pos c0 j ≤ 10000000 := by
  have h1 := cvv_le s pos c0 h j
  have h2 : 64 ^ j ≤ 64 ^ 3 := Nat.pow_le_pow_right (by decide) hj
  have h3 : (64 : Nat) ^ 3 = 262144 := by decide
  omega

def leastOf (n : Nat) : Nat := if n = 2 then 128 else if n = 3 then 2048 else 65536

/-- n bytes that are a code point. -/
def Good (s : ByteArray) (pos n c0 : Nat) : Prop :=
  pos + n ≤ s.size ∧ (∀ j, 1 ≤ j → j < n → 128 ≤ byt s (pos + j) ∧ byt s (pos + j) ≤ 191) ∧ leastOf n ≤ cvv s pos c0 (n - 1) ∧ cvv s pos c0 (n - 1) ≤ 1114111 ∧ ¬ (55295 < cvv s pos c0 (n - 1) ∧ cvv s pos c0 (n - 1) < 57344)

def Kind (b n c0 : Nat) : Prop := (n = 2 ∧ b = c0 + 192 ∧ c0 < 32) ∨ (n = 3 ∧ b = c0 + 224 ∧ c0 < 16) ∨ (n = 4 ∧ b = c0 + 240 ∧ c0 < 8)

theorem cvv_1 (s : ByteArray) (pos c0 : Nat) : cvv s pos c0 (2 - 1) = c0 * 64 + (byt s (pos + 1) - 128) := rfl
theorem cvv_2 (s : ByteArray) (pos c0 : Nat) : cvv s pos c0 (3 - 1) = (c0 * 64 + (byt s (pos + 1) - 128)) * 64 + (byt s (pos + 2) - 128) := rfl
theorem cvv_3 (s : ByteArray) (pos c0 : Nat) : cvv s pos c0 (4 - 1) = ((c0 * 64 + (byt s (pos + 1) - 128)) * 64 + (byt s (pos + 2) - 128)) * 64 + (byt s (pos + 3) - 128) := rfl
theorem least_2 : leastOf 2 = 128 := rfl
theorem least_3 : leastOf 3 = 2048 := rfl
theorem least_4 : leastOf 4 = 65536 := rfl

theorem decode_byt (s : ByteArray) (i : Nat) : Utf8.decode s i = Lib.decodeN (s.size - i) (byt s i) (byt s (i + 1)) (byt s (i + 2)) (byt s (i + 3)) := Lib.decode_at s i

theorem dec_good {s : ByteArray} {pos n c0 : Nat} (hk : Kind (byt s pos) n c0) (hg : Good s pos n c0) : (Utf8.decode s pos).2 = n := by
  obtain ⟨g1, g2, g3, g4, g5⟩ := hg
  have b1 := byt_lt s (pos + 1)
  have b2 := byt_lt s (pos + 2)
  have b3 := byt_lt s (pos + 3)
  rw [decode_byt]
  rcases hk with ⟨rfl, h0, hc⟩ | ⟨rfl, h0, hc⟩ | ⟨rfl, h0, hc⟩
  · obtain ⟨k1, k2⟩ := g2 1 (by decide) (by decide)
    rw [cvv_1] at g3 g4 g5
    rw [least_2] at g3
    unfold Lib.decodeN
    rw [if_neg (by omega), if_pos (by omega), if_pos (by omega)]
  · obtain ⟨k1, k2⟩ := g2 1 (by decide) (by decide)
    obtain ⟨k3, k4⟩ := g2 2 (by decide) (by decide)
    rw [cvv_2] at g3 g4 g5
    rw [least_3] at g3
    unfold Lib.decodeN
    rw [if_neg (by omega), if_neg (by omega), if_pos (by omega), if_pos (by omega)]
  · obtain ⟨k1, k2⟩ := g2 1 (by decide) (by decide)
    obtain ⟨k3, k4⟩ := g2 2 (by decide) (by decide)
    obtain ⟨k5, k6⟩ := g2 3 (by decide) (by decide)
    rw [cvv_3] at g3 g4 g5
    rw [least_4] at g3
    unfold Lib.decodeN
    rw [if_neg (by omega), if_neg (by omega), if_neg (by omega), if_pos (by omega), if_pos (by omega)]

theorem dec_bad {s : ByteArray} {pos n c0 : Nat} (hk : Kind (byt s pos) n c0) (hg : ¬ Good s pos n c0) : Utf8.decode s pos = (65533, 1) := by
  have b1 := byt_lt s (pos + 1)
  have b2 := byt_lt s (pos + 2)
  have b3 := byt_lt s (pos + 3)
  rw [decode_byt]
  rcases hk with ⟨rfl, h0, hc⟩ | ⟨rfl, h0, hc⟩ | ⟨rfl, h0, hc⟩
  · have hbad : ¬ (pos + 2 ≤ s.size ∧ 128 ≤ byt s (pos + 1) ∧ byt s (pos + 1) ≤ 191 ∧ 128 ≤ c0 * 64 + (byt s (pos + 1) - 128)) := by
      rintro ⟨a, b, c, d⟩
      refine hg ⟨a, fun j h1 h2 => by obtain rfl : j = 1 := by omega
                                      exact ⟨b, c⟩, ?_⟩
      rw [cvv_1, least_2]
      omega
    unfold Lib.decodeN
    rw [if_neg (by omega)]
    by_cases h1 : byt s pos / 32 = 6 ∧ 1 < s.size - pos ∧ byt s (pos + 1) / 64 = 2
    · rw [if_pos h1, if_neg (by omega)]
    · rw [if_neg h1, if_neg (by omega), if_neg (by omega)]
  · have hbad : ¬ (pos + 3 ≤ s.size ∧ (128 ≤ byt s (pos + 1) ∧ byt s (pos + 1) ≤ 191) ∧ (128 ≤ byt s (pos + 2) ∧ byt s (pos + 2) ≤ 191) ∧
        2048 ≤ (c0 * 64 + (byt s (pos + 1) - 128)) * 64 + (byt s (pos + 2) - 128) ∧ ¬ (55295 < (c0 * 64 + (byt s (pos + 1) - 128)) * 64 + (byt s (pos + 2) - 128) ∧ (c0 * 64 + (byt s (pos + 1) - 128)) * 64 + (byt s (pos + 2) - 128) < 57344)) := by
      rintro ⟨a, b, c, d, e⟩
      refine hg ⟨a, fun j h1 h2 => by
        rcases (show j = 1 ∨ j = 2 by omega) with rfl | rfl
        · exact b
        · exact c, ?_⟩
      rw [cvv_2, least_3]
      omega
    unfold Lib.decodeN
    rw [if_neg (by omega), if_neg (by omega)]
    by_cases h1 : byt s pos / 16 = 14 ∧ (1 < s.size - pos ∧ byt s (pos + 1) / 64 = 2) ∧ (2 < s.size - pos ∧ byt s (pos + 2) / 64 = 2)
    · rw [if_pos h1, if_neg (by omega)]
    · rw [if_neg h1, if_neg (by omega)]
  · have hbad : ¬ (pos + 4 ≤ s.size ∧ (128 ≤ byt s (pos + 1) ∧ byt s (pos + 1) ≤ 191) ∧ (128 ≤ byt s (pos + 2) ∧ byt s (pos + 2) ≤ 191) ∧ (128 ≤ byt s (pos + 3) ∧ byt s (pos + 3) ≤ 191) ∧
        65536 ≤ ((c0 * 64 + (byt s (pos + 1) - 128)) * 64 + (byt s (pos + 2) - 128)) * 64 + (byt s (pos + 3) - 128) ∧ ((c0 * 64 + (byt s (pos + 1) - 128)) * 64 + (byt s (pos + 2) - 128)) * 64 + (byt s (pos + 3) - 128) ≤ 1114111) := by
      rintro ⟨a, b, c, d, e, f⟩
      refine hg ⟨a, fun j h1 h2 => by
        rcases (show j = 1 ∨ j = 2 ∨ j = 3 by omega) with rfl | rfl | rfl
        · exact b
        · exact c
        · exact d, ?_⟩
      rw [cvv_3, least_4]
      omega
    unfold Lib.decodeN
    rw [if_neg (by omega), if_neg (by omega), if_neg (by omega)]
    by_cases h1 : byt s pos / 8 = 30 ∧ (1 < s.size - pos ∧ byt s (pos + 1) / 64 = 2) ∧ (2 < s.size - pos ∧ byt s (pos + 2) / 64 = 2) ∧ (3 < s.size - pos ∧ byt s (pos + 3) / 64 = 2)
    · rw [if_pos h1, if_neg (by omega)]
    · rw [if_neg h1]

theorem dec_none {s : ByteArray} {pos : Nat} (h : (128 ≤ byt s pos ∧ byt s pos < 192) ∨ 248 ≤ byt s pos) : Utf8.decode s pos = (65533, 1) := by
  have b0 := byt_lt s pos
  rw [decode_byt]
  unfold Lib.decodeN
  rw [if_neg (by omega), if_neg (by omega), if_neg (by omega), if_neg (by omega)]

theorem vfrom_bad {s : ByteArray} {f pos : Nat} (hp : pos < s.size) (h : Utf8.decode s pos = (65533, 1)) : vfrom s (f + 1) pos = false := by
  rw [vfrom, if_pos hp, h, if_pos ⟨rfl, rfl⟩]

theorem vfrom_good {s : ByteArray} {f pos n : Nat} (hp : pos < s.size) (h : (Utf8.decode s pos).2 = n) (hn : n ≠ 1) : vfrom s (f + 1) pos = vfrom s f (pos + n) := by
  rw [vfrom, if_pos hp, h, if_neg (by rintro ⟨_, h⟩; exact hn h)]

theorem vfrom_one {s : ByteArray} {f pos : Nat} (hp : pos < s.size) (h : byt s pos < 128) : vfrom s (f + 1) pos = vfrom s f (pos + 1) := by
  have e : Utf8.decode s pos = (byt s pos, 1) := by
    rw [decode_byt]; unfold Lib.decodeN; rw [if_pos h]
  rw [vfrom, if_pos hp, e, if_neg (by rintro ⟨h, _⟩; simp only at h; omega)]

end Go.Proofs.Ytljfhedmpnikiaa
