/-
  A float of 32 bits as one of 64: nothing is lost. Condition: a number of at most 53 bits, its place within reach.
-/
import Derived.Test.YtffceodbadedjaaOrderM
set_option linter.unusedSimpArgs false
set_option linter.unusedVariables false
namespace Go.Proofs.Ytffceodbadedjaa
open Ieee

/-- A float of 32 bits as one of 64: the number moved up, its place moved down. -/
def wideD (s : Bool) (m : Nat) (e : Int) : Datum := if m = 0 then .number s 0 (-1074) else .number s (m * 2 ^ (52 - m.log2)) (e - ((52 - m.log2 : Nat) : Int))

/-- A number of at most 53 bits within double's range is written and read again as itself. -/
theorem read_write_double (s : Bool) (m : Nat) (e : Int) (hm : m < 9007199254740992) (he : -1000 ≤ e) (he2 : e ≤ 900) :
    double.read (double.write (.number s m e)) = wideD s m e ∧ double.write (.number s m e) < 2 * 9223372036854775808 ∧ double.write (.number s m e) % 9223372036854775808 < 9218868437227405312 ∧
      decide (9223372036854775808 ≤ double.write (.number s m e)) = s := by
  have F := fmt_double
  have hw : double.write (.number s m e) = double.word s (rungOf double m e) := nearest_eq ..
  rw [hw]
  by_cases h0 : m = 0
  · subst h0
    have : rungOf double 0 e = 0 := rfl
    rw [this]
    cases s
    · refine ⟨?_, by decide, by decide, by decide⟩; rfl
    · refine ⟨?_, by decide, by decide, by decide⟩
      rw [show wideD true 0 e = .number true 0 (-1074) by unfold wideD; rw [if_pos rfl]]
      decide +kernel
  · have hlog : m.log2 < 53 := log2_lt_of h0 (by omega)
    obtain ⟨k, hk⟩ : ∃ k : Nat, k = 52 - m.log2 := ⟨_, rfl⟩
    have hlo := Nat.log2_self_le h0
    have hhi := @Nat.lt_log2_self m
    have hp : 0 < 2 ^ k := Nat.two_pow_pos k
    have hm1 : 4503599627370496 ≤ m * 2 ^ k := by
      have : 2 ^ m.log2 * 2 ^ k ≤ m * 2 ^ k := Nat.mul_le_mul_right _ hlo
      rw [← Nat.pow_add, show m.log2 + k = 52 by omega] at this
      have c : (2 : Nat) ^ 52 = 4503599627370496 := by decide
      omega
    have hm2 : m * 2 ^ k < 9007199254740992 := by
      have : m * 2 ^ k < 2 ^ (m.log2 + 1) * 2 ^ k := Nat.mul_lt_mul_of_pos_right hhi hp
      rw [← Nat.pow_add, show m.log2 + 1 + k = 53 by omega] at this
      have c : (2 : Nat) ^ 53 = 9007199254740992 := by decide
      omega
    have hsc := rungOf_scale double m e k
    have hlog2 : (m * 2 ^ k).log2 = 52 := by rw [log2_two_pow_mul h0]; omega
    obtain ⟨y, hy⟩ : ∃ y : Nat, y = m * 2 ^ k := ⟨_, rfl⟩
    obtain ⟨d, hd⟩ : ∃ d : Int, d = e - (k : Int) := ⟨_, rfl⟩
    rw [← hy, ← hd] at hsc
    rw [← hy] at hm1 hm2 hlog2
    have hL : lastP double y d = d := by
      unfold lastP
      rw [hlog2]
      show max (d + ((52 : Nat) : Int) - ((52 : Nat) : Int)) (-1074) = d
      omega
    have hr : rungOf double y d = (d + 1074).toNat * 4503599627370496 + y := by
      unfold rungOf
      rw [if_neg (by omega), hL]
      show min ((d - (-1074)).toNat * 4503599627370496 + rneI y (d - d)) 9218868437227405312 = _
      have : rneI y (d - d) = y := by
        unfold rneI; rw [show d - d = 0 by omega, if_pos (by omega)]; exact rne_zero y
      rw [this, show d - -1074 = d + 1074 by omega]
      apply Nat.min_eq_left
      omega
    rw [← hsc, hr]
    obtain ⟨r, hre⟩ : ∃ r : Nat, r = (d + 1074).toNat * 4503599627370496 + y := ⟨_, rfl⟩
    rw [← hre]
    have hrb : r < 9218868437227405312 := by omega
    have hword : double.word s r = (if s then 9223372036854775808 + r else r) := rfl
    have hlt : double.word s r < 2 * 9223372036854775808 := by rw [hword]; split <;> omega
    have hmod : double.word s r % 9223372036854775808 = r := by rw [hword]; split <;> omega
    have hsg : decide (9223372036854775808 ≤ double.word s r) = s := by
      rw [hword]; cases s
      · simp; omega
      · simp
    refine ⟨?_, hlt, by rw [hmod]; exact hrb, hsg⟩
    rw [read_fin F.sb F.fr F.lp hlt (by rw [hmod]; exact hrb), hmod, hsg]
    have hq : r / 2 ^ 52 = (d + 1074).toNat + 1 := by show r / 4503599627370496 = _; omega
    have hm3 : r % 2 ^ 52 = y - 4503599627370496 := by show r % 4503599627370496 = _; omega
    have h1 : pm 52 r = y := by
      unfold pm
      rw [if_neg (by omega), hm3]
      show y - 4503599627370496 + 4503599627370496 = y
      omega
    have h2 : pe 52 (-1074) r = d := by rw [pe_eq, hq]; omega
    rw [h1, h2]
    unfold wideD
    rw [if_neg h0, ← hk, ← hy, ← hd]

/-- As floats of 64 bits two numbers stand as they did. -/
theorem order_wide (s t : Bool) (m n : Nat) (i j : Int) (hi : -1000 ≤ i) (hj : -1000 ≤ j) : (wideD s m i).order (wideD t n j) = Datum.order (.number s m i) (.number t n j) := by
  have e1 : ∀ (s : Bool) (m : Nat) (i : Int), -1000 ≤ i → ∃ (m' : Nat) (i' : Int), wideD s m i = .number s m' i' ∧ -1074 ≤ i' ∧ m' * 2 ^ (i' - (-1074)).toNat = m * 2 ^ (i - (-1074)).toNat := fun s m i hi => by
    unfold wideD
    by_cases h0 : m = 0
    · rw [if_pos h0]; exact ⟨0, -1074, rfl, by omega, by rw [h0]; simp⟩
    · rw [if_neg h0]
      refine ⟨_, _, rfl, by omega, ?_⟩
      rw [Nat.mul_assoc, ← Nat.pow_add]
      congr 2
      omega
  obtain ⟨m', i', h1, h2, h3⟩ := e1 s m i hi
  obtain ⟨n', j', h4, h5, h6⟩ := e1 t n j hj
  rw [h1, h4, order_num s t m' n' i' j' (-1074) h2 h5, order_num s t m n i j (-1074) (by omega) (by omega), h3, h6]

end Go.Proofs.Ytffceodbadedjaa
