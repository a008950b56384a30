/-
  How a world stands to an elder one behind calls, allocations and draws; bits of a word. No condition.
-/
import Derived.Test.YtffceodbadedjaaMath
import Derived.Test.YtffceodbadedjaaProg
import Derived.WalkKit
import Derived.WalkSpells
import Derived.WalkLawsBesides
import Derived.WalkSmall
import Derived.Below
import Derived.Laws.Bits64b
import Derived.Deep.RegionHeld3
import Derived.Deep.QuietTactic
import Derived.BigQuiet
set_option linter.unusedSimpArgs false
set_option linter.unusedVariables false
namespace Go.Proofs.Ytffceodbadedjaa
open Go.RowKit

theorem hid {p : Prop} (h : p) : Hid p := h

theorem bnext {w w1 w2 : World} (h : Below w.heap.size w w1) (k : Below w1.heap.size w1 w2) : Below w.heap.size w w2 := h.trans (k.mono h.size)

/-- A cell that there was reads as it did behind a call that makes memory. -/
theorem bkeep {w1 w2 : World} {a : Addr} {v : Value} (h : w1.cell? a = some v) (hb : Below w1.heap.size w1 w2) : w2.cell? a = some v := by
  rw [hb.cell (World.block_lt_of_cell? _ _ h)]; exact h

theorem ret_u {a b : Nat} (h : a = b) : Ending.returned (.int .u64 (a : Int)) = .returned (.int .u64 (b : Int)) := by rw [h]

theorem word_and {k a : Nat} (ha : a < 2 * 2 ^ k) : a &&& 2 ^ k = if 2 ^ k ≤ a then 2 ^ k else 0 := by
  have hp : 0 < 2 ^ k := Nat.two_pow_pos k
  have h1 : a.testBit k = decide (2 ^ k ≤ a) := by
    rw [Nat.testBit_eq_decide_div_mod_eq]
    by_cases hc : 2 ^ k ≤ a
    · have : a / 2 ^ k = 1 := by rw [Nat.div_eq_iff hp]; omega
      simp [this, hc]
    · have : a / 2 ^ k = 0 := Nat.div_eq_of_lt (by omega)
      simp [this, hc]
  apply Nat.eq_of_testBit_eq
  intro j
  rw [Nat.testBit_and, Nat.testBit_two_pow]
  by_cases h : k = j
  · subst h
    rw [h1]
    by_cases hc : 2 ^ k ≤ a <;> simp [hc, Nat.testBit_two_pow]
  · by_cases hc : 2 ^ k ≤ a <;> simp [hc, h, Nat.testBit_two_pow]

theorem word_xor {k a : Nat} (ha : a < 2 * 2 ^ k) : a ^^^ 2 ^ k = if 2 ^ k ≤ a then a - 2 ^ k else a + 2 ^ k := by
  have hp : 0 < 2 ^ k := Nat.two_pow_pos k
  by_cases hc : 2 ^ k ≤ a
  · rw [if_pos hc]
    obtain ⟨r, rfl⟩ : ∃ r, a = 2 ^ k + r := ⟨a - 2 ^ k, by omega⟩
    have hr : r < 2 ^ k := by omega
    have e : 2 ^ k + r = 2 ^ k ^^^ r := by
      have := Nat.two_pow_add_eq_or_of_lt hr 1
      rw [Nat.mul_one] at this
      rw [this]
      apply Nat.eq_of_testBit_eq
      intro j
      rw [Nat.testBit_or, Nat.testBit_xor, Nat.testBit_two_pow]
      by_cases h : k = j
      · subst h; simp [Nat.testBit_lt_two_pow hr]
      · simp [h]
    rw [show 2 ^ k + r - 2 ^ k = r by omega]
    rw [e, Nat.xor_comm (2 ^ k) r, Nat.xor_assoc, Nat.xor_self, Nat.xor_zero]
  · rw [if_neg hc]
    have hr : a < 2 ^ k := by omega
    have := Nat.two_pow_add_eq_or_of_lt hr 1
    rw [Nat.mul_one] at this
    rw [Nat.add_comm, this]
    apply Nat.eq_of_testBit_eq
    intro j
    rw [Nat.testBit_or, Nat.testBit_xor, Nat.testBit_two_pow]
    by_cases h : k = j
    · subst h; simp [Nat.testBit_lt_two_pow hr]
    · simp [h]

/-- 'a &^ b' on words, b a single bit, the highest one. -/
theorem bits_andNot_top (k a : Nat) (hk : k < 64) (ha : a < 2 * 2 ^ k) : bits .andNot .u64 (a : Int) ((2 ^ k : Nat) : Int) = ((a % 2 ^ k : Nat) : Int) := by
  have hk64 : (2 : Nat) ^ k < 2 ^ 64 := Nat.pow_lt_pow_right (by decide) hk
  have hk65 : (2 : Nat) * 2 ^ k ≤ 2 ^ 64 := by
    rw [Nat.mul_comm, ← Nat.pow_succ]; exact Nat.pow_le_pow_right (by decide) (by omega)
  have ha64 : a < 2 ^ 64 := by omega
  have h1 : (BitVec.ofInt 64 (a : Int)) = BitVec.ofNat 64 a := by rw [BitVec.ofInt_natCast]
  have h2 : (BitVec.ofInt 64 ((2 ^ k : Nat) : Int)) = BitVec.ofNat 64 (2 ^ k) := by rw [BitVec.ofInt_natCast]
  show IntKind.u64.wrap ((BitVec.ofInt 64 (a : Int) &&& ~~~ BitVec.ofInt 64 ((2 ^ k : Nat) : Int)).toNat : Int) = _
  rw [h1, h2, IntKind.wrap_u64]
  have hp : 0 < 2 ^ k := Nat.two_pow_pos k
  have key : (BitVec.ofNat 64 a &&& ~~~ BitVec.ofNat 64 (2 ^ k)).toNat = a % 2 ^ k := by
    rw [BitVec.toNat_and, BitVec.toNat_not, BitVec.toNat_ofNat, BitVec.toNat_ofNat, Nat.mod_eq_of_lt ha64, Nat.mod_eq_of_lt hk64]
    apply Nat.eq_of_testBit_eq
    intro j
    rw [show (2 : Nat) ^ 64 - 1 - 2 ^ k = 2 ^ 64 - (2 ^ k + 1) by omega, Nat.testBit_and, Nat.testBit_two_pow_sub_succ hk64, Nat.testBit_mod_two_pow, Nat.testBit_two_pow]
    rcases Nat.lt_trichotomy j k with h | h | h
    · have : ¬ k = j := by omega
      have h64 : j < 64 := by omega
      simp [h, this, h64]
    · subst h; simp
    · have hz : a.testBit j = false := Nat.testBit_lt_two_pow (Nat.lt_of_lt_of_le ha (by
        rw [Nat.mul_comm, ← Nat.pow_succ]; exact Nat.pow_le_pow_right (by decide) (by omega)))
      simp [hz]
  rw [key]
  have : a % 2 ^ k < 2 ^ k := Nat.mod_lt _ hp
  have : (2 : Nat) ^ 64 = 18446744073709551616 := by decide
  omega

end Go.Proofs.Ytffceodbadedjaa
