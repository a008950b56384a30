/-
  The contracts of the program's small functions on formats. Condition: the format is that of 32 or of 64 bits; a word has no more bits than that.
-/
import Derived.Test.YtffceodbadedjaaBel
set_option linter.unusedSimpArgs false
set_option linter.unusedVariables false
namespace Go.Proofs.Ytffceodbadedjaa
open Go.RowKit

/-- The kind of a word by its size. -/
def kindOf (INF s : Nat) : Nat := if s = 0 then 1 else if s < INF then 2 else if s = INF then 3 else 4

theorem formatOf_no (b : Int) (h1 : b ≠ 32) (h2 : b ≠ 64) (w : World) : Calls Try.prog 31 #[.int .i64 b] w fun e w' => e = .returned (.agg #[.int .i64 0, .int .i64 0]) ∧ Below w.heap.size w w' := by
  have e1 : (b == 32) = false := by simpa using h1
  have e2 : (b == 64) = false := by simpa using h2
  clear h1 h2
  go_enter Try.func31, Try.ntmps31
  go_wp2
  exact bodyPost_ret (v := .agg #[.int .i64 0, .int .i64 0]) (by simp [results, Try.results31, go_sem]) rfl ⟨rfl, (Below.refl _ _).alloc (Nat.le_refl _) _⟩

theorem known_no (w : World) : Calls Try.prog 32 #[.agg #[.int .i64 0, .int .i64 0]] w fun e w' => e = .returned (.bool false) ∧ Below w.heap.size w w' := by
  go_enter Try.func32, Try.ntmps32
  go_wp2
  go_ret
  exact ⟨rfl, (Below.refl _ _).alloc (Nat.le_refl _) _⟩

theorem formatOf_32 (w : World) : Calls Try.prog 31 #[.int .i64 32] w fun e w' => e = .returned (.agg #[.int .i64 8, .int .i64 23]) ∧ Below w.heap.size w w' := by
  go_enter Try.func31, Try.ntmps31
  go_wp2
  exact bodyPost_ret (v := .agg #[.int .i64 8, .int .i64 23]) (by simp [results, Try.results31, go_sem]) rfl ⟨rfl, (Below.refl _ _).alloc (Nat.le_refl _) _⟩

theorem known_32 (w : World) : Calls Try.prog 32 #[.agg #[.int .i64 8, .int .i64 23]] w fun e w' => e = .returned (.bool true) ∧ Below w.heap.size w w' := by
  go_enter Try.func32, Try.ntmps32
  go_wp2
  go_ret
  exact ⟨rfl, (Below.refl _ _).alloc (Nat.le_refl _) _⟩

theorem signBit_32 (w : World) : Calls Try.prog 61 #[.agg #[.int .i64 8, .int .i64 23]] w fun e w' => e = .returned (.int .u64 2147483648) ∧ Below w.heap.size w w' := by
  go_enter Try.func61, Try.ntmps61
  go_wp2
  go_ret
  exact ⟨rfl, (Below.refl _ _).alloc (Nat.le_refl _) _⟩

theorem infinity_32 (w : World) : Calls Try.prog 59 #[.agg #[.int .i64 8, .int .i64 23]] w fun e w' => e = .returned (.int .u64 2139095040) ∧ Below w.heap.size w w' := by
  go_enter Try.func59, Try.ntmps59
  go_wp2
  go_quiet (fail)
  go_wp2
  go_ret
  exact ⟨rfl, below_drewN ((Below.refl _ _).alloc (Nat.le_refl _) _) _⟩

theorem lowest_32 (w : World) : Calls Try.prog 77 #[.agg #[.int .i64 8, .int .i64 23]] w fun e w' => e = .returned (.int .i64 (-149)) ∧ Below w.heap.size w w' := by
  go_enter Try.func77, Try.ntmps77
  go_wp2
  go_quiet (fail)
  go_wp2
  go_ret
  exact ⟨rfl, below_drewN ((Below.refl _ _).alloc (Nat.le_refl _) _) _⟩

theorem canonical_32 (w : World) : Calls Try.prog 46 #[.agg #[.int .i64 8, .int .i64 23]] w fun e w' => e = .returned (.int .u64 2143289344) ∧ Below w.heap.size w w' := by
  have hw : IntKind.i64.wrap 22 = 22 := by decide
  go_enter Try.func46, Try.ntmps46
  go_wp2
  go_region_held3 (fun w' => w'.cell? ⟨w.heap.size, 0, none⟩ = some (.int .i64 8) ∧ w'.cell? ⟨w.heap.size, 1, none⟩ = some (.int .i64 23) ∧ Below w.heap.size w w')
    (first
      | exact ⟨by simp, by simp, ((Below.refl _ _).alloc (Nat.le_refl _) _).drew⟩
      | (go_split_ands; exact ⟨bkeep ‹_› hb, bkeep ‹_› hb, bnext ‹_› hb⟩))
    (first | (go_at_call 59; refine (infinity_32 _).mono ?_; rintro e w' ⟨rfl, hb⟩))
  go_wp2
  go_ret
  exact ⟨rfl, by go_split_ands; assumption⟩

theorem cut_32 (a : Nat) (ha : a < 18446744073709551616) (w : World) : Calls Try.prog 33 #[.agg #[.int .i64 8, .int .i64 23], .int .u64 a] w fun e w' => e = .returned (.int .u64 ((a % 4294967296 : Nat) : Int)) ∧ Below w.heap.size w w' := by
  have hand : bits .and .u64 (a : Int) 4294967295 = ((a % 4294967296 : Nat) : Int) := by
    have := bits_and_u64_nat a 4294967295 ha (by decide)
    rw [show (4294967295 : Nat) = 2 ^ 32 - 1 by decide, Nat.and_two_pow_sub_one_eq_mod] at this
    exact this
  obtain ⟨y, hy⟩ : ∃ y : Nat, y = a % 4294967296 := ⟨_, rfl⟩
  rw [← hy] at hand ⊢
  clear hy
  have hw : IntKind.u64.wrap 4294967296 = 4294967296 := by decide
  have hw2 : IntKind.u64.wrap (4294967295) = 4294967295 := by decide
  go_enter Try.func33, Try.ntmps33
  go_wp2_with (go_at_call 61; refine (signBit_32 _).mono ?_; rintro e w' ⟨rfl, hb⟩)
  go_ret
  exact ⟨rfl, bnext ((Below.refl _ _).alloc (Nat.le_refl _) _) hb⟩

theorem size_32 (a : Nat) (ha : a < 4294967296) (w : World) : Calls Try.prog 35 #[.agg #[.int .i64 8, .int .i64 23], .int .u64 a] w fun e w' => e = .returned (.int .u64 ((a % 2147483648 : Nat) : Int)) ∧ Below w.heap.size w w' := by
  have hand : bits .andNot .u64 (a : Int) 2147483648 = ((a % 2147483648 : Nat) : Int) := bits_andNot_top 31 a (by decide) (by omega)
  obtain ⟨y, hy⟩ : ∃ y : Nat, y = a % 2147483648 := ⟨_, rfl⟩
  rw [← hy] at hand ⊢
  clear hy
  go_enter Try.func35, Try.ntmps35
  go_wp2_with (go_at_call 61; refine (signBit_32 _).mono ?_; rintro e w' ⟨rfl, hb⟩)
  go_ret
  exact ⟨rfl, bnext ((Below.refl _ _).alloc (Nat.le_refl _) _) hb⟩

theorem sign_32 (a : Nat) (ha : a < 4294967296) (w : World) : Calls Try.prog 36 #[.agg #[.int .i64 8, .int .i64 23], .int .u64 a] w fun e w' => e = .returned (.int .u64 ((if 2147483648 ≤ a then 2147483648 else 0 : Nat) : Int)) ∧ Below w.heap.size w w' := by
  have hand : bits .and .u64 (a : Int) 2147483648 = ((if 2147483648 ≤ a then 2147483648 else 0 : Nat) : Int) := by
    have := bits_and_u64_nat a 2147483648 (by omega) (by decide)
    rw [show (2147483648 : Nat) = 2 ^ 31 by decide, word_and (by omega)] at this
    exact this
  obtain ⟨y, hy⟩ : ∃ y : Nat, y = (if 2147483648 ≤ a then 2147483648 else 0) := ⟨_, rfl⟩
  rw [← hy] at hand ⊢
  clear hy
  go_enter Try.func36, Try.ntmps36
  go_wp2_with (go_at_call 61; refine (signBit_32 _).mono ?_; rintro e w' ⟨rfl, hb⟩)
  go_ret
  exact ⟨rfl, bnext ((Below.refl _ _).alloc (Nat.le_refl _) _) hb⟩

theorem opposite_32 (a : Nat) (ha : a < 4294967296) (w : World) : Calls Try.prog 47 #[.agg #[.int .i64 8, .int .i64 23], .int .u64 a] w fun e w' => e = .returned (.int .u64 ((if 2147483648 ≤ a then a - 2147483648 else a + 2147483648 : Nat) : Int)) ∧ Below w.heap.size w w' := by
  have hand : bits .xor .u64 (a : Int) 2147483648 = ((if 2147483648 ≤ a then a - 2147483648 else a + 2147483648 : Nat) : Int) := by
    have := bits_xor_u64_nat a 2147483648 (by omega) (by decide)
    rw [show (2147483648 : Nat) = 2 ^ 31 by decide, word_xor (by omega)] at this
    exact this
  obtain ⟨y, hy⟩ : ∃ y : Nat, y = (if 2147483648 ≤ a then a - 2147483648 else a + 2147483648) := ⟨_, rfl⟩
  rw [← hy] at hand ⊢
  clear hy
  go_enter Try.func47, Try.ntmps47
  go_wp2_with (go_at_call 61; refine (signBit_32 _).mono ?_; rintro e w' ⟨rfl, hb⟩)
  go_ret
  exact ⟨rfl, bnext ((Below.refl _ _).alloc (Nat.le_refl _) _) hb⟩

theorem kind_32 (a : Nat) (ha : a < 4294967296) (w : World) : Calls Try.prog 45 #[.agg #[.int .i64 8, .int .i64 23], .int .u64 a] w fun e w' => e = .returned (.int .i64 ((kindOf 2139095040 (a % 2147483648) : Nat) : Int)) ∧ Below w.heap.size w w' := by
  have HS := fun w => hid (size_32 a ha w)
  have h0 : Below w.heap.size w w := Below.refl _ _
  obtain ⟨s, hs⟩ : ∃ s : Nat, s = a % 2147483648 := ⟨_, rfl⟩
  rw [← hs] at HS ⊢
  have hs2 : s < 2147483648 := by omega
  clear hs
  rcases Nat.eq_zero_or_pos s with h | h
  · subst h
    have hk : kindOf 2139095040 0 = 1 := rfl
    rw [hk]; clear hk
    go_enter Try.func45, Try.ntmps45
    go_wp2_with (first
      | (go_at_call 35; refine (HS _).out.mono ?_; rintro e w1 ⟨rfl, hb⟩; have c0 := bkeep (a := ⟨w.heap.size, 0, none⟩) (v := .int .i64 8) (by simp) hb; have c1 := bkeep (a := ⟨w.heap.size, 1, none⟩) (v := .int .i64 23) (by simp) hb))
    go_ret
    exact ⟨rfl, bnext ((Below.refl _ _).alloc (Nat.le_refl _) _) hb⟩
  · rcases Nat.lt_trichotomy s 2139095040 with h2 | h2 | h2
    · have hk : kindOf 2139095040 s = 2 := by unfold kindOf; rw [if_neg (by omega), if_pos h2]
      rw [hk]; clear hk
      have e1 : ((s : Int) == 0) = false := by simp; omega
      have e2 : decide ((s : Int) < 2139095040) = true := by simp; omega
      have e2' : ((s : Int) < 2139095040) := by omega
      clear h h2 hs2
      go_enter Try.func45, Try.ntmps45
      go_wp2_with (first
        | (go_at_call 35; refine (HS _).out.mono ?_; rintro e w1 ⟨rfl, hb⟩; have c0 := bkeep (a := ⟨w.heap.size, 0, none⟩) (v := .int .i64 8) (by simp) hb; have c1 := bkeep (a := ⟨w.heap.size, 1, none⟩) (v := .int .i64 23) (by simp) hb)
        | (go_at_call 59; refine (infinity_32 _).mono ?_; rintro e w2 ⟨rfl, hb2⟩))
      go_ret
      exact ⟨rfl, bnext (bnext ((Below.refl _ _).alloc (Nat.le_refl _) _) hb) hb2⟩
    · subst h2
      have hk : kindOf 2139095040 2139095040 = 3 := rfl
      rw [hk]; clear hk
      go_enter Try.func45, Try.ntmps45
      go_wp2_with (first
        | (go_at_call 35; refine (HS _).out.mono ?_; rintro e w1 ⟨rfl, hb⟩; have c0 := bkeep (a := ⟨w.heap.size, 0, none⟩) (v := .int .i64 8) (by simp) hb; have c1 := bkeep (a := ⟨w.heap.size, 1, none⟩) (v := .int .i64 23) (by simp) hb)
        | (go_at_call 59; refine (infinity_32 _).mono ?_; rintro e w2 ⟨rfl, hb2⟩; have c2 := bkeep (a := ⟨w.heap.size, 0, none⟩) (v := .int .i64 8) (by simp [*]) hb2; have c3 := bkeep (a := ⟨w.heap.size, 1, none⟩) (v := .int .i64 23) (by simp [*]) hb2))
      go_ret
      exact ⟨rfl, bnext (bnext (bnext ((Below.refl _ _).alloc (Nat.le_refl _) _) hb) (by assumption)) hb2⟩
    · have hk : kindOf 2139095040 s = 4 := by unfold kindOf; rw [if_neg (by omega), if_neg (by omega), if_neg (by omega)]
      rw [hk]; clear hk
      have e1 : ((s : Int) == 0) = false := by simp; omega
      have e2 : decide ((s : Int) < 2139095040) = false := by simp; omega
      have e2' : ¬ ((s : Int) < 2139095040) := by omega
      have e3 : ((s : Int) == 2139095040) = false := by simp; omega
      clear h h2 hs2
      go_enter Try.func45, Try.ntmps45
      go_wp2_with (first
        | (go_at_call 35; refine (HS _).out.mono ?_; rintro e w1 ⟨rfl, hb⟩; have c0 := bkeep (a := ⟨w.heap.size, 0, none⟩) (v := .int .i64 8) (by simp) hb; have c1 := bkeep (a := ⟨w.heap.size, 1, none⟩) (v := .int .i64 23) (by simp) hb)
        | (go_at_call 59; refine (infinity_32 _).mono ?_; rintro e w2 ⟨rfl, hb2⟩; have c2 := bkeep (a := ⟨w.heap.size, 0, none⟩) (v := .int .i64 8) (by simp [*]) hb2; have c3 := bkeep (a := ⟨w.heap.size, 1, none⟩) (v := .int .i64 23) (by simp [*]) hb2))
      go_ret
      exact ⟨rfl, bnext (bnext (bnext ((Below.refl _ _).alloc (Nat.le_refl _) _) hb) (by assumption)) hb2⟩

theorem formatOf_64 (w : World) : Calls Try.prog 31 #[.int .i64 64] w fun e w' => e = .returned (.agg #[.int .i64 11, .int .i64 52]) ∧ Below w.heap.size w w' := by
  go_enter Try.func31, Try.ntmps31
  go_wp2
  exact bodyPost_ret (v := .agg #[.int .i64 11, .int .i64 52]) (by simp [results, Try.results31, go_sem]) rfl ⟨rfl, (Below.refl _ _).alloc (Nat.le_refl _) _⟩

theorem known_64 (w : World) : Calls Try.prog 32 #[.agg #[.int .i64 11, .int .i64 52]] w fun e w' => e = .returned (.bool true) ∧ Below w.heap.size w w' := by
  go_enter Try.func32, Try.ntmps32
  go_wp2
  go_ret
  exact ⟨rfl, (Below.refl _ _).alloc (Nat.le_refl _) _⟩

theorem signBit_64 (w : World) : Calls Try.prog 61 #[.agg #[.int .i64 11, .int .i64 52]] w fun e w' => e = .returned (.int .u64 9223372036854775808) ∧ Below w.heap.size w w' := by
  go_enter Try.func61, Try.ntmps61
  go_wp2
  go_ret
  exact ⟨rfl, (Below.refl _ _).alloc (Nat.le_refl _) _⟩

theorem infinity_64 (w : World) : Calls Try.prog 59 #[.agg #[.int .i64 11, .int .i64 52]] w fun e w' => e = .returned (.int .u64 9218868437227405312) ∧ Below w.heap.size w w' := by
  go_enter Try.func59, Try.ntmps59
  go_wp2
  go_quiet (fail)
  go_wp2
  go_ret
  exact ⟨rfl, below_drewN ((Below.refl _ _).alloc (Nat.le_refl _) _) _⟩

theorem lowest_64 (w : World) : Calls Try.prog 77 #[.agg #[.int .i64 11, .int .i64 52]] w fun e w' => e = .returned (.int .i64 (-1074)) ∧ Below w.heap.size w w' := by
  go_enter Try.func77, Try.ntmps77
  go_wp2
  go_quiet (fail)
  go_wp2
  go_ret
  exact ⟨rfl, below_drewN ((Below.refl _ _).alloc (Nat.le_refl _) _) _⟩

theorem canonical_64 (w : World) : Calls Try.prog 46 #[.agg #[.int .i64 11, .int .i64 52]] w fun e w' => e = .returned (.int .u64 9221120237041090560) ∧ Below w.heap.size w w' := by
  have hw : IntKind.i64.wrap 51 = 51 := by decide
  go_enter Try.func46, Try.ntmps46
  go_wp2
  go_region_held3 (fun w' => w'.cell? ⟨w.heap.size, 0, none⟩ = some (.int .i64 11) ∧ w'.cell? ⟨w.heap.size, 1, none⟩ = some (.int .i64 52) ∧ Below w.heap.size w w')
    (first
      | exact ⟨by simp, by simp, ((Below.refl _ _).alloc (Nat.le_refl _) _).drew⟩
      | (go_split_ands; exact ⟨bkeep ‹_› hb, bkeep ‹_› hb, bnext ‹_› hb⟩))
    (first | (go_at_call 59; refine (infinity_64 _).mono ?_; rintro e w' ⟨rfl, hb⟩))
  go_wp2
  go_ret
  exact ⟨rfl, by go_split_ands; assumption⟩

theorem cut_64 (a : Nat) (ha : a < 18446744073709551616) (w : World) : Calls Try.prog 33 #[.agg #[.int .i64 11, .int .i64 52], .int .u64 a] w fun e w' => e = .returned (.int .u64 ((a % 18446744073709551616 : Nat) : Int)) ∧ Below w.heap.size w w' := by
  have hand : bits .and .u64 (a : Int) 18446744073709551615 = ((a % 18446744073709551616 : Nat) : Int) := by
    have := bits_and_u64_nat a 18446744073709551615 ha (by decide)
    rw [show (18446744073709551615 : Nat) = 2 ^ 64 - 1 by decide, Nat.and_two_pow_sub_one_eq_mod] at this
    exact this
  obtain ⟨y, hy⟩ : ∃ y : Nat, y = a % 18446744073709551616 := ⟨_, rfl⟩
  rw [← hy] at hand ⊢
  clear hy
  have hw : IntKind.u64.wrap 18446744073709551616 = 0 := by decide
  have hw2 : IntKind.u64.wrap (-1) = 18446744073709551615 := by decide
  go_enter Try.func33, Try.ntmps33
  go_wp2_with (go_at_call 61; refine (signBit_64 _).mono ?_; rintro e w' ⟨rfl, hb⟩)
  go_ret
  exact ⟨rfl, bnext ((Below.refl _ _).alloc (Nat.le_refl _) _) hb⟩

theorem size_64 (a : Nat) (ha : a < 18446744073709551616) (w : World) : Calls Try.prog 35 #[.agg #[.int .i64 11, .int .i64 52], .int .u64 a] w fun e w' => e = .returned (.int .u64 ((a % 9223372036854775808 : Nat) : Int)) ∧ Below w.heap.size w w' := by
  have hand : bits .andNot .u64 (a : Int) 9223372036854775808 = ((a % 9223372036854775808 : Nat) : Int) := bits_andNot_top 63 a (by decide) (by omega)
  obtain ⟨y, hy⟩ : ∃ y : Nat, y = a % 9223372036854775808 := ⟨_, rfl⟩
  rw [← hy] at hand ⊢
  clear hy
  go_enter Try.func35, Try.ntmps35
  go_wp2_with (go_at_call 61; refine (signBit_64 _).mono ?_; rintro e w' ⟨rfl, hb⟩)
  go_ret
  exact ⟨rfl, bnext ((Below.refl _ _).alloc (Nat.le_refl _) _) hb⟩

theorem sign_64 (a : Nat) (ha : a < 18446744073709551616) (w : World) : Calls Try.prog 36 #[.agg #[.int .i64 11, .int .i64 52], .int .u64 a] w fun e w' => e = .returned (.int .u64 ((if 9223372036854775808 ≤ a then 9223372036854775808 else 0 : Nat) : Int)) ∧ Below w.heap.size w w' := by
  have hand : bits .and .u64 (a : Int) 9223372036854775808 = ((if 9223372036854775808 ≤ a then 9223372036854775808 else 0 : Nat) : Int) := by
    have := bits_and_u64_nat a 9223372036854775808 (by omega) (by decide)
    rw [show (9223372036854775808 : Nat) = 2 ^ 63 by decide, word_and (by omega)] at this
    exact this
  obtain ⟨y, hy⟩ : ∃ y : Nat, y = (if 9223372036854775808 ≤ a then 9223372036854775808 else 0) := ⟨_, rfl⟩
  rw [← hy] at hand ⊢
  clear hy
  go_enter Try.func36, Try.ntmps36
  go_wp2_with (go_at_call 61; refine (signBit_64 _).mono ?_; rintro e w' ⟨rfl, hb⟩)
  go_ret
  exact ⟨rfl, bnext ((Below.refl _ _).alloc (Nat.le_refl _) _) hb⟩

theorem opposite_64 (a : Nat) (ha : a < 18446744073709551616) (w : World) : Calls Try.prog 47 #[.agg #[.int .i64 11, .int .i64 52], .int .u64 a] w fun e w' => e = .returned (.int .u64 ((if 9223372036854775808 ≤ a then a - 9223372036854775808 else a + 9223372036854775808 : Nat) : Int)) ∧ Below w.heap.size w w' := by
  have hand : bits .xor .u64 (a : Int) 9223372036854775808 = ((if 9223372036854775808 ≤ a then a - 9223372036854775808 else a + 9223372036854775808 : Nat) : Int) := by
    have := bits_xor_u64_nat a 9223372036854775808 (by omega) (by decide)
    rw [show (9223372036854775808 : Nat) = 2 ^ 63 by decide, word_xor (by omega)] at this
    exact this
  obtain ⟨y, hy⟩ : ∃ y : Nat, y = (if 9223372036854775808 ≤ a then a - 9223372036854775808 else a + 9223372036854775808) := ⟨_, rfl⟩
  rw [← hy] at hand ⊢
  clear hy
  go_enter Try.func47, Try.ntmps47
  go_wp2_with (go_at_call 61; refine (signBit_64 _).mono ?_; rintro e w' ⟨rfl, hb⟩)
  go_ret
  exact ⟨rfl, bnext ((Below.refl _ _).alloc (Nat.le_refl _) _) hb⟩

theorem kind_64 (a : Nat) (ha : a < 18446744073709551616) (w : World) : Calls Try.prog 45 #[.agg #[.int .i64 11, .int .i64 52], .int .u64 a] w fun e w' => e = .returned (.int .i64 ((kindOf 9218868437227405312 (a % 9223372036854775808) : Nat) : Int)) ∧ Below w.heap.size w w' := by
  have HS := fun w => hid (size_64 a ha w)
  have h0 : Below w.heap.size w w := Below.refl _ _
  obtain ⟨s, hs⟩ : ∃ s : Nat, s = a % 9223372036854775808 := ⟨_, rfl⟩
  rw [← hs] at HS ⊢
  have hs2 : s < 9223372036854775808 := by omega
  clear hs
  rcases Nat.eq_zero_or_pos s with h | h
  · subst h
    have hk : kindOf 9218868437227405312 0 = 1 := rfl
    rw [hk]; clear hk
    go_enter Try.func45, Try.ntmps45
    go_wp2_with (first
      | (go_at_call 35; refine (HS _).out.mono ?_; rintro e w1 ⟨rfl, hb⟩; have c0 := bkeep (a := ⟨w.heap.size, 0, none⟩) (v := .int .i64 11) (by simp) hb; have c1 := bkeep (a := ⟨w.heap.size, 1, none⟩) (v := .int .i64 52) (by simp) hb))
    go_ret
    exact ⟨rfl, bnext ((Below.refl _ _).alloc (Nat.le_refl _) _) hb⟩
  · rcases Nat.lt_trichotomy s 9218868437227405312 with h2 | h2 | h2
    · have hk : kindOf 9218868437227405312 s = 2 := by unfold kindOf; rw [if_neg (by omega), if_pos h2]
      rw [hk]; clear hk
      have e1 : ((s : Int) == 0) = false := by simp; omega
      have e2 : decide ((s : Int) < 9218868437227405312) = true := by simp; omega
      have e2' : ((s : Int) < 9218868437227405312) := by omega
      clear h h2 hs2
      go_enter Try.func45, Try.ntmps45
      go_wp2_with (first
        | (go_at_call 35; refine (HS _).out.mono ?_; rintro e w1 ⟨rfl, hb⟩; have c0 := bkeep (a := ⟨w.heap.size, 0, none⟩) (v := .int .i64 11) (by simp) hb; have c1 := bkeep (a := ⟨w.heap.size, 1, none⟩) (v := .int .i64 52) (by simp) hb)
        | (go_at_call 59; refine (infinity_64 _).mono ?_; rintro e w2 ⟨rfl, hb2⟩))
      go_ret
      exact ⟨rfl, bnext (bnext ((Below.refl _ _).alloc (Nat.le_refl _) _) hb) hb2⟩
    · subst h2
      have hk : kindOf 9218868437227405312 9218868437227405312 = 3 := rfl
      rw [hk]; clear hk
      go_enter Try.func45, Try.ntmps45
      go_wp2_with (first
        | (go_at_call 35; refine (HS _).out.mono ?_; rintro e w1 ⟨rfl, hb⟩; have c0 := bkeep (a := ⟨w.heap.size, 0, none⟩) (v := .int .i64 11) (by simp) hb; have c1 := bkeep (a := ⟨w.heap.size, 1, none⟩) (v := .int .i64 52) (by simp) hb)
        | (go_at_call 59; refine (infinity_64 _).mono ?_; rintro e w2 ⟨rfl, hb2⟩; have c2 := bkeep (a := ⟨w.heap.size, 0, none⟩) (v := .int .i64 11) (by simp [*]) hb2; have c3 := bkeep (a := ⟨w.heap.size, 1, none⟩) (v := .int .i64 52) (by simp [*]) hb2))
      go_ret
      exact ⟨rfl, bnext (bnext (bnext ((Below.refl _ _).alloc (Nat.le_refl _) _) hb) (by assumption)) hb2⟩
    · have hk : kindOf 9218868437227405312 s = 4 := by unfold kindOf; rw [if_neg (by omega), if_neg (by omega), if_neg (by omega)]
      rw [hk]; clear hk
      have e1 : ((s : Int) == 0) = false := by simp; omega
      have e2 : decide ((s : Int) < 9218868437227405312) = false := by simp; omega
      have e2' : ¬ ((s : Int) < 9218868437227405312) := by omega
      have e3 : ((s : Int) == 9218868437227405312) = false := by simp; omega
      clear h h2 hs2
      go_enter Try.func45, Try.ntmps45
      go_wp2_with (first
        | (go_at_call 35; refine (HS _).out.mono ?_; rintro e w1 ⟨rfl, hb⟩; have c0 := bkeep (a := ⟨w.heap.size, 0, none⟩) (v := .int .i64 11) (by simp) hb; have c1 := bkeep (a := ⟨w.heap.size, 1, none⟩) (v := .int .i64 52) (by simp) hb)
        | (go_at_call 59; refine (infinity_64 _).mono ?_; rintro e w2 ⟨rfl, hb2⟩; have c2 := bkeep (a := ⟨w.heap.size, 0, none⟩) (v := .int .i64 11) (by simp [*]) hb2; have c3 := bkeep (a := ⟨w.heap.size, 1, none⟩) (v := .int .i64 52) (by simp [*]) hb2))
      go_ret
      exact ⟨rfl, bnext (bnext (bnext ((Below.refl _ _).alloc (Nat.le_refl _) _) hb) (by assumption)) hb2⟩

end Go.Proofs.Ytffceodbadedjaa
