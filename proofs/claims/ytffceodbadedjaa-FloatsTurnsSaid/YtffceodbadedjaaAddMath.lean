/-
  Sums by Ieee's own; what an operation answers is no NaN. Condition: the words are no NaNs where a theorem says so.
-/
import Derived.Test.YtffceodbadedjaaSum
import Derived.Test.YtffceodbadedjaaVal
set_option linter.unusedSimpArgs false
set_option linter.unusedVariables false
namespace Go.Proofs.Ytffceodbadedjaa
open Ieee

section
variable {f : Format} {SB INF P : Nat} {low : Int} (F : Fmt f SB INF P low) {a b : Nat}
include F

theorem word_inf (ha : a < 2 * SB) (h : a % SB = INF) : f.word (decide (SB ≤ a)) f.infRung = a := by
  have := word_sz F ha
  rw [h] at this
  rw [F.inf]; exact this

omit F in
theorem opp_lt (ha : a < 2 * SB) : oppN SB a < 2 * SB ∧ oppN SB a % SB = a % SB ∧ decide (SB ≤ oppN SB a) = !decide (SB ≤ a) := by
  unfold oppN
  by_cases h : SB ≤ a
  · rw [if_pos h]
    refine ⟨by omega, ?_, ?_⟩
    · rw [Nat.mod_eq_sub_mod h]
    · have : ¬ SB ≤ a - SB := by omega
      simp [h, this]
  · rw [if_neg h]
    refine ⟨by omega, ?_, ?_⟩
    · rw [Nat.add_mod_right]
    · have : SB ≤ a + SB := by omega
      simp [h]

theorem sumO_add (room CAN : Nat) (hroom : room + P = 61) (ha : a < 2 * SB) (hb : b < 2 * SB) (na : a % SB ≤ INF) (hle : b % SB ≤ a % SB) :
    sumO f room SB INF CAN P low a b = (f.add a b).getD CAN := by
  have h0 := F.inf0
  unfold sumO Format.add
  by_cases hi : a % SB = INF
  · rw [if_pos hi]
    have k1 : kindOf INF (a % SB) = 3 := (kind3 h0).2 hi
    rw [rk3 F ha k1]
    by_cases hj : b % SB = INF
    · have k2 : kindOf INF (b % SB) = 3 := (kind3 h0).2 hj
      rw [rk3 F hb k2]
      simp only [Datum.sum]
      have ho := opp_lt (SB := SB) ha
      by_cases hs : decide (SB ≤ a) = decide (SB ≤ b)
      · rw [if_pos hs]
        have hne : b ≠ oppN SB a := by
          intro h
          rw [h, ho.2.2] at hs
          cases decide (SB ≤ a) <;> simp at hs
        rw [if_neg hne]
        simp only [Option.map_some, Option.getD_some, Format.write]
        exact (word_inf F ha hi).symm
      · rw [if_neg hs]
        have he : b = oppN SB a := by
          have w1 := word_sz F hb
          have w2 := word_sz F ho.1
          rw [ho.2.1, ho.2.2, hi] at w2
          rw [hj] at w1
          have : decide (SB ≤ b) = !decide (SB ≤ a) := by
            cases h1 : decide (SB ≤ a) <;> cases h2 : decide (SB ≤ b) <;> simp_all
          rw [this] at w1
          rw [← w1, ← w2]
        rw [if_pos he]; rfl
    · rw [read_fin F.sb F.fr F.lp hb (by rw [F.inf]; omega)]
      have hne : b ≠ oppN SB a := by
        intro h
        have ho := opp_lt (SB := SB) ha
        rw [h, ho.2.1] at hj
        exact hj hi
      rw [if_neg hne]
      simp only [Datum.sum, Option.map_some, Option.getD_some, Format.write]
      exact (word_inf F ha hi).symm
  · rw [if_neg hi, read_fin F.sb F.fr F.lp ha (by rw [F.inf]; omega), read_fin F.sb F.fr F.lp hb (by rw [F.inf]; omega)]
    obtain ⟨ap, h1, h2, h3, _⟩ := parts_ord P low hle
    rw [sum_ge room (by rw [F.fr]; exact F.p52) (by rw [F.fr]; exact hroom) _ _ _ _ _ _ ap h1 h2 (by rw [F.fr]; exact pm_lt _ _) (by rw [F.fr]; exact h3)]
    rw [show (pe P low (a % SB) - pe P low (b % SB)).toNat = ap by omega]
    rfl

theorem sumW_add (room CAN : Nat) (hroom : room + P = 61) (ha : a < 2 * SB) (hb : b < 2 * SB) (na : a % SB ≤ INF) (nb : b % SB ≤ INF) :
    sumW f room SB INF CAN P low a b = (f.add a b).getD CAN := by
  unfold sumW
  by_cases h : a % SB < b % SB
  · rw [if_pos h, sumO_add F room CAN hroom hb ha nb (by omega)]
    unfold Format.add; rw [sum_comm]
  · rw [if_neg h, sumO_add F room CAN hroom ha hb na (by omega)]

theorem add_opp (ha : a < 2 * SB) (hb : b < 2 * SB) (nb : b % SB ≤ INF) : f.add a (oppN SB b) = f.sub a b := by
  have h0 := F.inf0
  have ho := opp_lt (SB := SB) hb
  unfold Format.add Format.sub
  have : f.read (oppN SB b) = (f.read b).opposite := by
    by_cases hj : b % SB = INF
    · rw [rk3 F hb ((kind3 h0).2 hj), rk3 F ho.1 ((kind3 h0).2 (by rw [ho.2.1]; exact hj)), ho.2.2]; rfl
    · rw [read_fin F.sb F.fr F.lp hb (by rw [F.inf]; omega), read_fin F.sb F.fr F.lp ho.1 (by rw [ho.2.1, F.inf]; omega), ho.2.1, ho.2.2]; rfl
  rw [this]

/-- What an operation answers, if it answers, is no NaN. -/
theorem write_fin (d : Datum) (hd : d.isNaN = false) : f.write d < 2 * SB ∧ f.write d % SB ≤ INF := by
  have hw : ∀ s r, r ≤ INF → f.word s r < 2 * SB ∧ f.word s r % SB ≤ INF := fun s r hr => by
    have hlt : INF < SB := by
      have h1 : f.infRung < f.signWeight := by
        have h : 0 < 2 ^ f.exponentBits := Nat.two_pow_pos _
        have hb : 0 < f.binade := Nat.two_pow_pos _
        have : f.infRung + f.binade = f.signWeight := by
          unfold Format.infRung Format.signWeight
          rw [Nat.pow_add, ← Nat.succ_mul]
          exact congrArg (· * f.binade) (by omega)
        omega
      rw [← F.inf, ← F.sb]; exact h1
    unfold Format.word
    rw [F.sb]
    cases s
    · simp only [Bool.false_eq_true, if_false]
      rw [Nat.mod_eq_of_lt (by omega)]; omega
    · simp only [if_true]
      rw [Nat.add_mod_left, Nat.mod_eq_of_lt (by omega)]; omega
  cases d with
  | number s m e =>
    simp only [Format.write]
    rw [nearest_eq]
    refine hw s _ ?_
    unfold rungOf
    split
    · omega
    · rw [F.inf]; exact Nat.min_le_right _ _
  | infinity s => simp only [Format.write]; exact hw s _ (by rw [F.inf]; omega)
  | nan s t => cases hd

omit F in
theorem sum_notNaN (d e r : Datum) (h : d.sum e = some r) : r.isNaN = false := by
  cases d <;> cases e <;> simp only [Datum.sum] at h
  all_goals first
    | (cases h; rfl)
    | (split at h <;> first | (cases h; rfl) | cases h)
    | cases h

omit F in
theorem product_notNaN (d e r : Datum) (h : d.product e = some r) : r.isNaN = false := by
  cases d <;> cases e <;> simp only [Datum.product] at h
  all_goals first
    | (cases h; rfl)
    | (split at h <;> first | (cases h; rfl) | cases h)
    | cases h

omit F in
theorem quotient_notNaN (k : Nat) (d e r : Datum) (h : d.quotient k e = some r) : r.isNaN = false := by
  cases d <;> cases e <;> simp only [Datum.quotient] at h
  all_goals first
    | (cases h; rfl)
    | (split at h <;> first | (cases h; rfl) | (split at h <;> first | (cases h; rfl) | cases h) | cases h)
    | cases h
end

end Go.Proofs.Ytffceodbadedjaa
