/-
  The contract of the program's root. Condition: the format is that of 32 or of 64 bits; the word has no more bits than that.
-/
import Derived.Test.YtffceodbadedjaaRootM
import Derived.Test.YtffceodbadedjaaProdMath
import Derived.Test.YtffceodbadedjaaQuo
import Derived.Test.YtffceodbadedjaaWholeMath
import Derived.Test.YtffceodbadedjaaSmall2
set_option linter.unusedSimpArgs false
set_option linter.unusedVariables false
namespace Go.Proofs.Ytffceodbadedjaa
open Go.RowKit

/-- Behind k digits of the root of N: the root, the rest, what is left. -/
def RI (N k m r l : Nat) : Prop := m * m + r = N * 4 ^ k / 18446744073709551616 ∧ r ≤ 2 * m ∧ l = N * 4 ^ k % 18446744073709551616

theorem sq1 (m r t : Nat) (h : r ≤ 2 * m) (ht : t < 4) (hge : 4 * m + 1 ≤ 4 * r + t) : (2 * m + 1) * (2 * m + 1) + (4 * r + t - (4 * m + 1)) = 4 * (m * m + r) + t ∧ 4 * r + t - (4 * m + 1) ≤ 2 * (2 * m + 1) := by
  have e : (2 * m + 1) * (2 * m + 1) = 4 * (m * m) + 4 * m + 1 := by
    rw [Nat.add_mul, Nat.mul_add, Nat.mul_mul_mul_comm]; omega
  rw [e]; omega
theorem sq2 (m r t : Nat) (h : r ≤ 2 * m) (ht : t < 4) (hlt : 4 * r + t < 4 * m + 1) : 2 * m * (2 * m) + (4 * r + t) = 4 * (m * m + r) + t ∧ 4 * r + t ≤ 2 * (2 * m) := by
  have e : 2 * m * (2 * m) = 4 * (m * m) := by rw [Nat.mul_mul_mul_comm]
  rw [e]; omega

theorem ri_start (N : Nat) (h : N < 18446744073709551616) : RI N 0 0 0 N := by
  refine ⟨?_, by omega, ?_⟩
  · rw [Nat.pow_zero, Nat.mul_one, Nat.div_eq_of_lt h]
  · rw [Nat.pow_zero, Nat.mul_one, Nat.mod_eq_of_lt h]

theorem ri_step {N k m r l : Nat} (h : RI N k m r l) :
    (4 * m + 1 ≤ 4 * r + l / 4611686018427387904 → RI N (k + 1) (2 * m + 1) (4 * r + l / 4611686018427387904 - (4 * m + 1)) (4 * l % 18446744073709551616)) ∧
    (4 * r + l / 4611686018427387904 < 4 * m + 1 → RI N (k + 1) (2 * m) (4 * r + l / 4611686018427387904) (4 * l % 18446744073709551616)) := by
  obtain ⟨h1, h2, h3⟩ := h
  have e : N * 4 ^ (k + 1) = 4 * (N * 4 ^ k) := by rw [Nat.pow_succ, ← Nat.mul_assoc, Nat.mul_comm]
  unfold RI
  rw [e]
  generalize N * 4 ^ k = A at *
  have ht : l / 4611686018427387904 < 4 := by omega
  have hA : 4 * A / 18446744073709551616 = 4 * (A / 18446744073709551616) + l / 4611686018427387904 := by omega
  have hl : 4 * l % 18446744073709551616 = 4 * A % 18446744073709551616 := by omega
  rw [hA, ← h1, hl]
  generalize l / 4611686018427387904 = t at *
  refine ⟨fun hg => ?_, fun hg => ?_⟩
  · have := sq1 m r t h2 ht hg
    exact ⟨this.1, this.2, rfl⟩
  · have := sq2 m r t h2 ht hg
    exact ⟨this.1, this.2, rfl⟩

theorem ri_bound {N k m r l : Nat} (h : RI N k m r l) (hN : N < 18446744073709551616) (hk : k ≤ 60) : m < 1152921504606846976 ∧ l < 18446744073709551616 := by
  obtain ⟨h1, h2, h3⟩ := h
  refine ⟨?_, by rw [h3]; exact Nat.mod_lt _ (by decide)⟩
  rcases Nat.lt_or_ge m 1152921504606846976 with h4 | h4
  · exact h4
  · exfalso
    have h5 : 1152921504606846976 * 1152921504606846976 ≤ m * m := Nat.mul_le_mul h4 h4
    have h6 : (4 : Nat) ^ k ≤ 4 ^ 60 := Nat.pow_le_pow_right (by decide) hk
    have h7 : N * 4 ^ k ≤ 18446744073709551615 * 4 ^ 60 := Nat.mul_le_mul (by omega) h6
    have h8 : N * 4 ^ k / 18446744073709551616 ≤ 18446744073709551615 * 4 ^ 60 / 18446744073709551616 := Nat.div_le_div_right h7
    have c : 18446744073709551615 * 4 ^ 60 / 18446744073709551616 < 1152921504606846976 * 1152921504606846976 := by decide +kernel
    omega

theorem ri_end {N m r l : Nat} (h : RI N 60 m r l) : m * m + r = N * 2 ^ 56 ∧ SqrtOf (N * 2 ^ 56) m := by
  obtain ⟨h1, h2, -⟩ := h
  have e : N * 4 ^ 60 / 18446744073709551616 = N * 2 ^ 56 := by
    rw [show (4 : Nat) ^ 60 = 2 ^ 56 * 18446744073709551616 by decide +kernel, ← Nat.mul_assoc, Nat.mul_div_cancel _ (by decide)]
  rw [e] at h1
  refine ⟨h1, ?_, ?_⟩
  · omega
  · have : (m + 1) * (m + 1) = m * m + 2 * m + 1 := by rw [Nat.add_mul, Nat.mul_add]; omega
    omega

theorem and_one (d : Int) : bits .and .i64 d 1 = d % 2 := by
  have e2 : BitVec.toNat (BitVec.ofInt 64 (1 : Int)) = 1 := by decide
  show IntKind.i64.wrap ((BitVec.ofInt 64 d &&& BitVec.ofInt 64 (1 : Int)).toNat : Int) = _
  rw [BitVec.toNat_and, e2, IntKind.wrap_i64, Nat.and_one_is_mod, BitVec.toNat_ofInt]
  omega

theorem or_two (q t : Nat) (h : t < 4) : 4 * q ||| t = 4 * q + t := by
  have := Nat.two_pow_add_eq_or_of_lt (i := 2) (b := t) h q
  rw [show 2 ^ 2 * q = 4 * q by rfl] at this
  exact this.symm

/-- The digits of a root, one after another, and what is made of them. -/
theorem root_loop_math (N k m r l : Nat) (h : RI N k m r l) (hN : N < 18446744073709551616) (hk : k < 60) :
    ∃ r4 t l4 q4 m2 : Nat, IntKind.u64.wrap ((r : Int) * 4) = (r4 : Int) ∧ (l : Int) / 4611686018427387904 = (t : Int) ∧ bits .or .u64 (r4 : Int) (t : Int) = ((4 * r + l / 4611686018427387904 : Nat) : Int) ∧
      IntKind.u64.wrap ((l : Int) * 4) = (l4 : Int) ∧ l4 = 4 * l % 18446744073709551616 ∧ IntKind.u64.wrap ((m : Int) * 4) = (q4 : Int) ∧ bits .or .u64 (q4 : Int) 1 = ((4 * m + 1 : Nat) : Int) ∧
      IntKind.u64.wrap ((m : Int) * 2) = (m2 : Int) ∧ m2 = 2 * m ∧ bits .or .u64 (m2 : Int) 1 = ((2 * m + 1 : Nat) : Int) ∧ 4 * r + l / 4611686018427387904 < 18446744073709551616 := by
  obtain ⟨hm, hl⟩ := ri_bound h hN (by omega)
  have hr := h.2.1
  clear h
  refine ⟨4 * r, l / 4611686018427387904, 4 * l % 18446744073709551616, 4 * m, 2 * m, ?_, by omega, ?_, ?_, rfl, ?_, ?_, ?_, rfl, ?_, by omega⟩
  · rw [IntKind.wrap_u64]; omega
  · have := bits_or_u64_nat (4 * r) (l / 4611686018427387904) (by omega) (by omega)
    rw [or_two _ _ (by omega)] at this; exact this
  · rw [IntKind.wrap_u64]; omega
  · rw [IntKind.wrap_u64]; omega
  · have := bits_or_u64_nat (4 * m) 1 (by omega) (by decide)
    rw [or_two _ _ (by decide)] at this; exact this
  · rw [IntKind.wrap_u64]; omega
  · have := bits_or_u64_nat (2 * m) 1 (by omega) (by decide)
    rw [or_one] at this; exact this

section
open Ieee
variable {f : Format} {SB INF P : Nat} {low : Int} (F : Fmt f SB INF P low) {a : Nat}
include F
theorem sqrt_nan (h : INF < a % SB) : f.sqrt a = none := by
  unfold Format.sqrt
  obtain ⟨s, t, e⟩ := read_nan (f := f) F.sb F.bi (by rw [F.inf]; exact h)
  rw [e]; rfl
theorem sqrt_zero (ha : a < 2 * SB) (h : kindOf INF (a % SB) = 1) : f.sqrt a = some a := by
  unfold Format.sqrt
  rw [rk1 F ha h]
  show some (f.write (.number (decide (SB ≤ a)) 0 _)) = some a
  congr 1
  show f.nearest _ _ _ = a
  rw [nearest_eq]
  have hz : rungOf f 0 (pe P low (a % SB)) = 0 := by unfold rungOf; rw [if_pos rfl]
  rw [hz]
  have := word_sz F ha
  rw [kind1.1 h] at this
  exact this
theorem sqrt_neg (ha : a < 2 * SB) (h : kindOf INF (a % SB) = 2 ∨ kindOf INF (a % SB) = 3) (hs : SB ≤ a) : f.sqrt a = none := by
  unfold Format.sqrt
  rcases h with h | h
  · have h2 := rk2 F ha h
    rw [h2.1, decide_eq_true hs]
    simp only [Datum.root, if_neg h2.2]; rfl
  · rw [rk3 F ha h, decide_eq_true hs]; rfl
theorem sqrt_inf (ha : a < 2 * SB) (h : kindOf INF (a % SB) = 3) (hs : ¬ SB ≤ a) : f.sqrt a = some a := by
  unfold Format.sqrt
  have := word_sz F ha
  rw [(kind3 F.inf0).1 h, decide_eq_false hs, ← F.inf] at this
  rw [rk3 F ha h, decide_eq_false hs]
  show some (f.word false f.infRung) = some a
  rw [this]
end

end Go.Proofs.Ytffceodbadedjaa
