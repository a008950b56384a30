/-
  The contracts of the program's tests on words: anyNaN, rank, less. Condition: the format is that of 32 or of 64 bits; a word has no more bits than that.
-/
import Derived.Test.YtnpamiofhalimaaSmall
import Derived.Deep.RegionWith
set_option linter.unusedSimpArgs false
set_option linter.unusedVariables false
namespace Go.Proofs.Ytnpamiofhalimaa
open Go.RowKit

theorem kindOf_four (INF s : Nat) : (kindOf INF s = 4) = (INF < s) := by
  unfold kindOf
  apply propext
  split
  · subst s; simp
  · split
    · simp; omega
    · split
      · subst s; simp
      · simp; omega

/-- How a word stands to others, if it is no NaN. -/
def rankOf (SB a : Nat) : Int := if SB ≤ a then -((a % SB : Nat) : Int) else ((a % SB : Nat) : Int)

theorem anyNaN_32 (a b : Nat) (ha : a < 4294967296) (hb : b < 4294967296) (w : World) : Calls Try.prog 61 #[.agg #[.int .i64 8, .int .i64 23], .int .u64 a, .int .u64 b] w fun e w' => e = .returned (.bool (decide (2139095040 < a % 2147483648 ∨ 2139095040 < b % 2147483648))) ∧ Below w.heap.size w w' := by
  have KA := fun w => hid (kind_32 a ha w)
  have KB := fun w => hid (kind_32 b hb w)
  have ea := kindOf_four 2139095040 (a % 2147483648)
  have eb := kindOf_four 2139095040 (b % 2147483648)
  obtain ⟨k, hk⟩ : ∃ k : Nat, k = kindOf 2139095040 (a % 2147483648) := ⟨_, rfl⟩
  obtain ⟨j, hj⟩ : ∃ j : Nat, j = kindOf 2139095040 (b % 2147483648) := ⟨_, rfl⟩
  rw [← hk] at KA ea
  rw [← hj] at KB eb
  simp only [← ea, ← eb]
  clear ea eb hk hj
  have h0 : Below w.heap.size w w := Below.refl _ _
  by_cases h : k = 4
  · subst h
    go_enter Try.func61, Try.ntmps61
    go_wp2_with (go_at_call 42; (with_reducible refine (KA _).out.mono ?_); rintro e w1 ⟨rfl, hb1⟩; have c0 := bkeep (a := ⟨w.heap.size, 0, none⟩) (v := .int .i64 8) (by simp) hb1; have c1 := bkeep (a := ⟨w.heap.size, 1, none⟩) (v := .int .i64 23) (by simp) hb1)
    go_ret
    exact ⟨by simp, bnext ((Below.refl _ _).alloc (Nat.le_refl _) _) hb1⟩
  · have e1 : ((k : Int) == 4) = false := by simp; omega
    by_cases h2 : j = 4
    · subst h2
      go_enter Try.func61, Try.ntmps61
      go_wp2_with (first
        | (go_at_call 42; ((with_reducible refine (KA _).out.mono ?_); rintro e w1 ⟨rfl, hb1⟩; have c0 := bkeep (a := ⟨w.heap.size, 0, none⟩) (v := .int .i64 8) (by simp) hb1; have c1 := bkeep (a := ⟨w.heap.size, 1, none⟩) (v := .int .i64 23) (by simp) hb1))
        | (go_at_call 42; ((with_reducible refine (KB _).out.mono ?_); rintro e w2 ⟨rfl, hb2⟩)))
      go_ret
      exact ⟨by simp, bnext (bnext ((Below.refl _ _).alloc (Nat.le_refl _) _) hb1) hb2⟩
    · have e2 : ((j : Int) == 4) = false := by simp; omega
      rw [show decide (k = 4 ∨ j = 4) = false by simp [h, h2]]
      clear h h2
      go_enter Try.func61, Try.ntmps61
      go_wp2_with (first
        | (go_at_call 42; ((with_reducible refine (KA _).out.mono ?_); rintro e w1 ⟨rfl, hb1⟩; have c0 := bkeep (a := ⟨w.heap.size, 0, none⟩) (v := .int .i64 8) (by simp) hb1; have c1 := bkeep (a := ⟨w.heap.size, 1, none⟩) (v := .int .i64 23) (by simp) hb1))
        | (go_at_call 42; ((with_reducible refine (KB _).out.mono ?_); rintro e w2 ⟨rfl, hb2⟩)))
      go_ret
      exact ⟨rfl, bnext (bnext ((Below.refl _ _).alloc (Nat.le_refl _) _) hb1) hb2⟩

theorem rank_32 (a : Nat) (ha : a < 4294967296) (w : World) : Calls Try.prog 62 #[.agg #[.int .i64 8, .int .i64 23], .int .u64 a] w fun e w' => e = .returned (.int .i64 (rankOf 2147483648 a)) ∧ Below w.heap.size w w' := by
  have HS := fun w => hid (size_32 a ha w)
  have HG := fun w => hid (sign_32 a ha w)
  have hr : rankOf 2147483648 a = if 2147483648 ≤ a then -((a % 2147483648 : Nat) : Int) else ((a % 2147483648 : Nat) : Int) := rfl
  rw [hr]; clear hr
  obtain ⟨s, hs⟩ : ∃ s : Nat, s = a % 2147483648 := ⟨_, rfl⟩
  rw [← hs] at HS ⊢
  have hs2 : s < 2147483648 := by omega
  clear hs
  by_cases h : 2147483648 ≤ a
  · rw [if_pos h] at HG ⊢
    clear h ha
    go_enter Try.func62, Try.ntmps62
    go_wp2_with (first
      | (go_at_call 58; ((with_reducible refine (HS _).out.mono ?_); rintro e w1 ⟨rfl, hb1⟩; have c0 := bkeep (a := ⟨w.heap.size, 0, none⟩) (v := .int .i64 8) (by simp) hb1; have c1 := bkeep (a := ⟨w.heap.size, 1, none⟩) (v := .int .i64 23) (by simp) hb1))
      | (go_at_call 67; ((with_reducible refine (HG _).out.mono ?_); rintro e w2 ⟨rfl, hb2⟩)))
    go_ret
    exact ⟨rfl, bnext (bnext ((Below.refl _ _).alloc (Nat.le_refl _) _) hb1) hb2⟩
  · rw [if_neg h] at HG ⊢
    clear h ha
    go_enter Try.func62, Try.ntmps62
    go_wp2_with (first
      | (go_at_call 58; ((with_reducible refine (HS _).out.mono ?_); rintro e w1 ⟨rfl, hb1⟩; have c0 := bkeep (a := ⟨w.heap.size, 0, none⟩) (v := .int .i64 8) (by simp) hb1; have c1 := bkeep (a := ⟨w.heap.size, 1, none⟩) (v := .int .i64 23) (by simp) hb1))
      | (go_at_call 67; ((with_reducible refine (HG _).out.mono ?_); rintro e w2 ⟨rfl, hb2⟩)))
    go_ret
    exact ⟨rfl, bnext (bnext ((Below.refl _ _).alloc (Nat.le_refl _) _) hb1) hb2⟩

theorem anyNaN_64 (a b : Nat) (ha : a < 18446744073709551616) (hb : b < 18446744073709551616) (w : World) : Calls Try.prog 61 #[.agg #[.int .i64 11, .int .i64 52], .int .u64 a, .int .u64 b] w fun e w' => e = .returned (.bool (decide (9218868437227405312 < a % 9223372036854775808 ∨ 9218868437227405312 < b % 9223372036854775808))) ∧ Below w.heap.size w w' := by
  have KA := fun w => hid (kind_64 a ha w)
  have KB := fun w => hid (kind_64 b hb w)
  have ea := kindOf_four 9218868437227405312 (a % 9223372036854775808)
  have eb := kindOf_four 9218868437227405312 (b % 9223372036854775808)
  obtain ⟨k, hk⟩ : ∃ k : Nat, k = kindOf 9218868437227405312 (a % 9223372036854775808) := ⟨_, rfl⟩
  obtain ⟨j, hj⟩ : ∃ j : Nat, j = kindOf 9218868437227405312 (b % 9223372036854775808) := ⟨_, rfl⟩
  rw [← hk] at KA ea
  rw [← hj] at KB eb
  simp only [← ea, ← eb]
  clear ea eb hk hj
  have h0 : Below w.heap.size w w := Below.refl _ _
  by_cases h : k = 4
  · subst h
    go_enter Try.func61, Try.ntmps61
    go_wp2_with (go_at_call 42; (with_reducible refine (KA _).out.mono ?_); rintro e w1 ⟨rfl, hb1⟩; have c0 := bkeep (a := ⟨w.heap.size, 0, none⟩) (v := .int .i64 11) (by simp) hb1; have c1 := bkeep (a := ⟨w.heap.size, 1, none⟩) (v := .int .i64 52) (by simp) hb1)
    go_ret
    exact ⟨by simp, bnext ((Below.refl _ _).alloc (Nat.le_refl _) _) hb1⟩
  · have e1 : ((k : Int) == 4) = false := by simp; omega
    by_cases h2 : j = 4
    · subst h2
      go_enter Try.func61, Try.ntmps61
      go_wp2_with (first
        | (go_at_call 42; ((with_reducible refine (KA _).out.mono ?_); rintro e w1 ⟨rfl, hb1⟩; have c0 := bkeep (a := ⟨w.heap.size, 0, none⟩) (v := .int .i64 11) (by simp) hb1; have c1 := bkeep (a := ⟨w.heap.size, 1, none⟩) (v := .int .i64 52) (by simp) hb1))
        | (go_at_call 42; ((with_reducible refine (KB _).out.mono ?_); rintro e w2 ⟨rfl, hb2⟩)))
      go_ret
      exact ⟨by simp, bnext (bnext ((Below.refl _ _).alloc (Nat.le_refl _) _) hb1) hb2⟩
    · have e2 : ((j : Int) == 4) = false := by simp; omega
      rw [show decide (k = 4 ∨ j = 4) = false by simp [h, h2]]
      clear h h2
      go_enter Try.func61, Try.ntmps61
      go_wp2_with (first
        | (go_at_call 42; ((with_reducible refine (KA _).out.mono ?_); rintro e w1 ⟨rfl, hb1⟩; have c0 := bkeep (a := ⟨w.heap.size, 0, none⟩) (v := .int .i64 11) (by simp) hb1; have c1 := bkeep (a := ⟨w.heap.size, 1, none⟩) (v := .int .i64 52) (by simp) hb1))
        | (go_at_call 42; ((with_reducible refine (KB _).out.mono ?_); rintro e w2 ⟨rfl, hb2⟩)))
      go_ret
      exact ⟨rfl, bnext (bnext ((Below.refl _ _).alloc (Nat.le_refl _) _) hb1) hb2⟩

theorem rank_64 (a : Nat) (ha : a < 18446744073709551616) (w : World) : Calls Try.prog 62 #[.agg #[.int .i64 11, .int .i64 52], .int .u64 a] w fun e w' => e = .returned (.int .i64 (rankOf 9223372036854775808 a)) ∧ Below w.heap.size w w' := by
  have HS := fun w => hid (size_64 a ha w)
  have HG := fun w => hid (sign_64 a ha w)
  have hr : rankOf 9223372036854775808 a = if 9223372036854775808 ≤ a then -((a % 9223372036854775808 : Nat) : Int) else ((a % 9223372036854775808 : Nat) : Int) := rfl
  rw [hr]; clear hr
  obtain ⟨s, hs⟩ : ∃ s : Nat, s = a % 9223372036854775808 := ⟨_, rfl⟩
  rw [← hs] at HS ⊢
  have hs2 : s < 9223372036854775808 := by omega
  clear hs
  by_cases h : 9223372036854775808 ≤ a
  · rw [if_pos h] at HG ⊢
    clear h ha
    go_enter Try.func62, Try.ntmps62
    go_wp2_with (first
      | (go_at_call 58; ((with_reducible refine (HS _).out.mono ?_); rintro e w1 ⟨rfl, hb1⟩; have c0 := bkeep (a := ⟨w.heap.size, 0, none⟩) (v := .int .i64 11) (by simp) hb1; have c1 := bkeep (a := ⟨w.heap.size, 1, none⟩) (v := .int .i64 52) (by simp) hb1))
      | (go_at_call 67; ((with_reducible refine (HG _).out.mono ?_); rintro e w2 ⟨rfl, hb2⟩)))
    go_ret
    exact ⟨rfl, bnext (bnext ((Below.refl _ _).alloc (Nat.le_refl _) _) hb1) hb2⟩
  · rw [if_neg h] at HG ⊢
    clear h ha
    go_enter Try.func62, Try.ntmps62
    go_wp2_with (first
      | (go_at_call 58; ((with_reducible refine (HS _).out.mono ?_); rintro e w1 ⟨rfl, hb1⟩; have c0 := bkeep (a := ⟨w.heap.size, 0, none⟩) (v := .int .i64 11) (by simp) hb1; have c1 := bkeep (a := ⟨w.heap.size, 1, none⟩) (v := .int .i64 52) (by simp) hb1))
      | (go_at_call 67; ((with_reducible refine (HG _).out.mono ?_); rintro e w2 ⟨rfl, hb2⟩)))
    go_ret
    exact ⟨rfl, bnext (bnext ((Below.refl _ _).alloc (Nat.le_refl _) _) hb1) hb2⟩

end Go.Proofs.Ytnpamiofhalimaa
