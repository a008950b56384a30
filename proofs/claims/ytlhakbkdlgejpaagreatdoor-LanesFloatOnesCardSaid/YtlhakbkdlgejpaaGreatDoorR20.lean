/-
  FSmall, FReg, FNormal: merged, what the law does not reach left out (each text says what it holds where it lies in wip). No condition.
-/
import Derived.Test.YtlhakbkdlgejpaaGreatDoorR19
import Derived.LoopTactic
set_option linter.unusedSimpArgs false
set_option linter.unusedVariables false
set_option maxRecDepth 100000
namespace Go.Proofs.YtlhakbkdlgejpaaGreatDoor.Fl
open Go.RowKit
/-- The kind of a word by its size. -/
def kindOf (INF s : Nat) : Nat := if s = 0 then 1 else if s < INF then 2 else if s = INF then 3 else 4
theorem known_no (w : World) : Calls Tryz.prog 180 #[.agg #[.int .i64 0, .int .i64 0]] w fun e w' => e = .returned (.bool false) ∧ Below w.heap.size w w' := by
  go_enter Tryz.func180, Tryz.ntmps180
  go_wp2
  go_ret
  exact ⟨rfl, (Below.refl _ _).alloc (Nat.le_refl _) _⟩
theorem formatOf_32 (w : World) : Calls Tryz.prog 179 #[.int .i64 32] w fun e w' => e = .returned (.agg #[.int .i64 8, .int .i64 23]) ∧ Below w.heap.size w w' := by
  go_enter Tryz.func179, Tryz.ntmps179
  go_wp2
  exact bodyPost_ret (v := .agg #[.int .i64 8, .int .i64 23]) (by simp [results, Tryz.results179, go_sem]) rfl ⟨rfl, (Below.refl _ _).alloc (Nat.le_refl _) _⟩
theorem known_32 (w : World) : Calls Tryz.prog 180 #[.agg #[.int .i64 8, .int .i64 23]] w fun e w' => e = .returned (.bool true) ∧ Below w.heap.size w w' := by
  go_enter Tryz.func180, Tryz.ntmps180
  go_wp2
  go_ret
  exact ⟨rfl, (Below.refl _ _).alloc (Nat.le_refl _) _⟩
theorem signBit_32 (w : World) : Calls Tryz.prog 240 #[.agg #[.int .i64 8, .int .i64 23]] w fun e w' => e = .returned (.int .u64 2147483648) ∧ Below w.heap.size w w' := by
  go_enter Tryz.func240, Tryz.ntmps240
  go_wp2
  go_ret
  exact ⟨rfl, (Below.refl _ _).alloc (Nat.le_refl _) _⟩
theorem infinity_32 (w : World) : Calls Tryz.prog 268 #[.agg #[.int .i64 8, .int .i64 23]] w fun e w' => e = .returned (.int .u64 2139095040) ∧ Below w.heap.size w w' := by
  go_enter Tryz.func268, Tryz.ntmps268
  go_wp2
  go_quiet (fail)
  go_wp2
  go_ret
  exact ⟨rfl, below_drewN ((Below.refl _ _).alloc (Nat.le_refl _) _) _⟩
theorem lowest_32 (w : World) : Calls Tryz.prog 269 #[.agg #[.int .i64 8, .int .i64 23]] w fun e w' => e = .returned (.int .i64 (-149)) ∧ Below w.heap.size w w' := by
  go_enter Tryz.func269, Tryz.ntmps269
  go_wp2
  go_quiet (fail)
  go_wp2
  go_ret
  exact ⟨rfl, below_drewN ((Below.refl _ _).alloc (Nat.le_refl _) _) _⟩
theorem canonical_32 (w : World) : Calls Tryz.prog 242 #[.agg #[.int .i64 8, .int .i64 23]] w fun e w' => e = .returned (.int .u64 2143289344) ∧ Below w.heap.size w w' := by
  have hw : IntKind.i64.wrap 22 = 22 := by decide
  go_enter Tryz.func242, Tryz.ntmps242
  go_wp2
  go_region_held3 (fun w' => w'.cell? ⟨w.heap.size, 0, none⟩ = some (.int .i64 8) ∧ w'.cell? ⟨w.heap.size, 1, none⟩ = some (.int .i64 23) ∧ Below w.heap.size w w')
    (first
      | exact ⟨by simp, by simp, ((Below.refl _ _).alloc (Nat.le_refl _) _).drew⟩
      | (go_split_ands; exact ⟨bkeep ‹_› hb, bkeep ‹_› hb, bnext ‹_› hb⟩))
    (first | (go_at_call 268; refine (infinity_32 _).mono ?_; rintro e w' ⟨rfl, hb⟩))
  go_wp2
  go_ret
  exact ⟨rfl, by go_split_ands; assumption⟩
theorem cut_32 (a : Nat) (ha : a < 18446744073709551616) (w : World) : Calls Tryz.prog 181 #[.agg #[.int .i64 8, .int .i64 23], .int .u64 a] w fun e w' => e = .returned (.int .u64 ((a % 4294967296 : Nat) : Int)) ∧ Below w.heap.size w w' := by
  have hand : bits .and .u64 (a : Int) 4294967295 = ((a % 4294967296 : Nat) : Int) := by
    have := bits_and_u64_nat a 4294967295 ha (by decide)
    rw [show (4294967295 : Nat) = 2 ^ 32 - 1 by decide, Nat.and_two_pow_sub_one_eq_mod] at this
    exact this
  obtain ⟨y, hy⟩ : ∃ y : Nat, y = a % 4294967296 := ⟨_, rfl⟩
  rw [← hy] at hand ⊢
  clear hy
  have hw : IntKind.u64.wrap 4294967296 = 4294967296 := by decide
  have hw2 : IntKind.u64.wrap (4294967295) = 4294967295 := by decide
  go_enter Tryz.func181, Tryz.ntmps181
  go_wp2_with (go_at_call 240; refine (signBit_32 _).mono ?_; rintro e w' ⟨rfl, hb⟩)
  go_ret
  exact ⟨rfl, bnext ((Below.refl _ _).alloc (Nat.le_refl _) _) hb⟩
theorem size_32 (a : Nat) (ha : a < 4294967296) (w : World) : Calls Tryz.prog 182 #[.agg #[.int .i64 8, .int .i64 23], .int .u64 a] w fun e w' => e = .returned (.int .u64 ((a % 2147483648 : Nat) : Int)) ∧ Below w.heap.size w w' := by
  have hand : bits .andNot .u64 (a : Int) 2147483648 = ((a % 2147483648 : Nat) : Int) := bits_andNot_top 31 a (by decide) (by omega)
  obtain ⟨y, hy⟩ : ∃ y : Nat, y = a % 2147483648 := ⟨_, rfl⟩
  rw [← hy] at hand ⊢
  clear hy
  go_enter Tryz.func182, Tryz.ntmps182
  go_wp2_with (go_at_call 240; refine (signBit_32 _).mono ?_; rintro e w' ⟨rfl, hb⟩)
  go_ret
  exact ⟨rfl, bnext ((Below.refl _ _).alloc (Nat.le_refl _) _) hb⟩
theorem sign_32 (a : Nat) (ha : a < 4294967296) (w : World) : Calls Tryz.prog 189 #[.agg #[.int .i64 8, .int .i64 23], .int .u64 a] w fun e w' => e = .returned (.int .u64 ((if 2147483648 ≤ a then 2147483648 else 0 : Nat) : Int)) ∧ Below w.heap.size w w' := by
  have hand : bits .and .u64 (a : Int) 2147483648 = ((if 2147483648 ≤ a then 2147483648 else 0 : Nat) : Int) := by
    have := bits_and_u64_nat a 2147483648 (by omega) (by decide)
    rw [show (2147483648 : Nat) = 2 ^ 31 by decide, word_and (by omega)] at this
    exact this
  obtain ⟨y, hy⟩ : ∃ y : Nat, y = (if 2147483648 ≤ a then 2147483648 else 0) := ⟨_, rfl⟩
  rw [← hy] at hand ⊢
  clear hy
  go_enter Tryz.func189, Tryz.ntmps189
  go_wp2_with (go_at_call 240; refine (signBit_32 _).mono ?_; rintro e w' ⟨rfl, hb⟩)
  go_ret
  exact ⟨rfl, bnext ((Below.refl _ _).alloc (Nat.le_refl _) _) hb⟩
theorem opposite_32 (a : Nat) (ha : a < 4294967296) (w : World) : Calls Tryz.prog 183 #[.agg #[.int .i64 8, .int .i64 23], .int .u64 a] w fun e w' => e = .returned (.int .u64 ((if 2147483648 ≤ a then a - 2147483648 else a + 2147483648 : Nat) : Int)) ∧ Below w.heap.size w w' := by
  have hand : bits .xor .u64 (a : Int) 2147483648 = ((if 2147483648 ≤ a then a - 2147483648 else a + 2147483648 : Nat) : Int) := by
    have := bits_xor_u64_nat a 2147483648 (by omega) (by decide)
    rw [show (2147483648 : Nat) = 2 ^ 31 by decide, word_xor (by omega)] at this
    exact this
  obtain ⟨y, hy⟩ : ∃ y : Nat, y = (if 2147483648 ≤ a then a - 2147483648 else a + 2147483648) := ⟨_, rfl⟩
  rw [← hy] at hand ⊢
  clear hy
  go_enter Tryz.func183, Tryz.ntmps183
  go_wp2_with (go_at_call 240; refine (signBit_32 _).mono ?_; rintro e w' ⟨rfl, hb⟩)
  go_ret
  exact ⟨rfl, bnext ((Below.refl _ _).alloc (Nat.le_refl _) _) hb⟩
theorem kind_32 (a : Nat) (ha : a < 4294967296) (w : World) : Calls Tryz.prog 241 #[.agg #[.int .i64 8, .int .i64 23], .int .u64 a] w fun e w' => e = .returned (.int .i64 ((kindOf 2139095040 (a % 2147483648) : Nat) : Int)) ∧ Below w.heap.size w w' := by
  have HS := fun w => hid (size_32 a ha w)
  have h0 : Below w.heap.size w w := Below.refl _ _
  obtain ⟨s, hs⟩ : ∃ s : Nat, s = a % 2147483648 := ⟨_, rfl⟩
  rw [← hs] at HS ⊢
  have hs2 : s < 2147483648 := by omega
  clear hs
  rcases Nat.eq_zero_or_pos s with h | h
  · subst h
    have hk : kindOf 2139095040 0 = 1 := rfl
    rw [hk]; clear hk
    go_enter Tryz.func241, Tryz.ntmps241
    go_wp2_with (first
      | (go_at_call 182; refine (HS _).out.mono ?_; rintro e w1 ⟨rfl, hb⟩; have c0 := bkeep (a := ⟨w.heap.size, 0, none⟩) (v := .int .i64 8) (by simp) hb; have c1 := bkeep (a := ⟨w.heap.size, 1, none⟩) (v := .int .i64 23) (by simp) hb))
    go_ret
    exact ⟨rfl, bnext ((Below.refl _ _).alloc (Nat.le_refl _) _) hb⟩
  · rcases Nat.lt_trichotomy s 2139095040 with h2 | h2 | h2
    · have hk : kindOf 2139095040 s = 2 := by unfold kindOf; rw [if_neg (by omega), if_pos h2]
      rw [hk]; clear hk
      have e1 : ((s : Int) == 0) = false := by simp; omega
      have e2 : decide ((s : Int) < 2139095040) = true := by simp; omega
      have e2' : ((s : Int) < 2139095040) := by omega
      clear h h2 hs2
      go_enter Tryz.func241, Tryz.ntmps241
      go_wp2_with (first
        | (go_at_call 182; refine (HS _).out.mono ?_; rintro e w1 ⟨rfl, hb⟩; have c0 := bkeep (a := ⟨w.heap.size, 0, none⟩) (v := .int .i64 8) (by simp) hb; have c1 := bkeep (a := ⟨w.heap.size, 1, none⟩) (v := .int .i64 23) (by simp) hb)
        | (go_at_call 268; refine (infinity_32 _).mono ?_; rintro e w2 ⟨rfl, hb2⟩))
      go_ret
      exact ⟨rfl, bnext (bnext ((Below.refl _ _).alloc (Nat.le_refl _) _) hb) hb2⟩
    · subst h2
      have hk : kindOf 2139095040 2139095040 = 3 := rfl
      rw [hk]; clear hk
      go_enter Tryz.func241, Tryz.ntmps241
      go_wp2_with (first
        | (go_at_call 182; refine (HS _).out.mono ?_; rintro e w1 ⟨rfl, hb⟩; have c0 := bkeep (a := ⟨w.heap.size, 0, none⟩) (v := .int .i64 8) (by simp) hb; have c1 := bkeep (a := ⟨w.heap.size, 1, none⟩) (v := .int .i64 23) (by simp) hb)
        | (go_at_call 268; refine (infinity_32 _).mono ?_; rintro e w2 ⟨rfl, hb2⟩; have c2 := bkeep (a := ⟨w.heap.size, 0, none⟩) (v := .int .i64 8) (by simp [*]) hb2; have c3 := bkeep (a := ⟨w.heap.size, 1, none⟩) (v := .int .i64 23) (by simp [*]) hb2))
      go_ret
      exact ⟨rfl, bnext (bnext (bnext ((Below.refl _ _).alloc (Nat.le_refl _) _) hb) (by assumption)) hb2⟩
    · have hk : kindOf 2139095040 s = 4 := by unfold kindOf; rw [if_neg (by omega), if_neg (by omega), if_neg (by omega)]
      rw [hk]; clear hk
      have e1 : ((s : Int) == 0) = false := by simp; omega
      have e2 : decide ((s : Int) < 2139095040) = false := by simp; omega
      have e2' : ¬ ((s : Int) < 2139095040) := by omega
      have e3 : ((s : Int) == 2139095040) = false := by simp; omega
      clear h h2 hs2
      go_enter Tryz.func241, Tryz.ntmps241
      go_wp2_with (first
        | (go_at_call 182; refine (HS _).out.mono ?_; rintro e w1 ⟨rfl, hb⟩; have c0 := bkeep (a := ⟨w.heap.size, 0, none⟩) (v := .int .i64 8) (by simp) hb; have c1 := bkeep (a := ⟨w.heap.size, 1, none⟩) (v := .int .i64 23) (by simp) hb)
        | (go_at_call 268; refine (infinity_32 _).mono ?_; rintro e w2 ⟨rfl, hb2⟩; have c2 := bkeep (a := ⟨w.heap.size, 0, none⟩) (v := .int .i64 8) (by simp [*]) hb2; have c3 := bkeep (a := ⟨w.heap.size, 1, none⟩) (v := .int .i64 23) (by simp [*]) hb2))
      go_ret
      exact ⟨rfl, bnext (bnext (bnext ((Below.refl _ _).alloc (Nat.le_refl _) _) hb) (by assumption)) hb2⟩
theorem formatOf_64 (w : World) : Calls Tryz.prog 179 #[.int .i64 64] w fun e w' => e = .returned (.agg #[.int .i64 11, .int .i64 52]) ∧ Below w.heap.size w w' := by
  go_enter Tryz.func179, Tryz.ntmps179
  go_wp2
  exact bodyPost_ret (v := .agg #[.int .i64 11, .int .i64 52]) (by simp [results, Tryz.results179, go_sem]) rfl ⟨rfl, (Below.refl _ _).alloc (Nat.le_refl _) _⟩
theorem known_64 (w : World) : Calls Tryz.prog 180 #[.agg #[.int .i64 11, .int .i64 52]] w fun e w' => e = .returned (.bool true) ∧ Below w.heap.size w w' := by
  go_enter Tryz.func180, Tryz.ntmps180
  go_wp2
  go_ret
  exact ⟨rfl, (Below.refl _ _).alloc (Nat.le_refl _) _⟩
theorem signBit_64 (w : World) : Calls Tryz.prog 240 #[.agg #[.int .i64 11, .int .i64 52]] w fun e w' => e = .returned (.int .u64 9223372036854775808) ∧ Below w.heap.size w w' := by
  go_enter Tryz.func240, Tryz.ntmps240
  go_wp2
  go_ret
  exact ⟨rfl, (Below.refl _ _).alloc (Nat.le_refl _) _⟩
theorem infinity_64 (w : World) : Calls Tryz.prog 268 #[.agg #[.int .i64 11, .int .i64 52]] w fun e w' => e = .returned (.int .u64 9218868437227405312) ∧ Below w.heap.size w w' := by
  go_enter Tryz.func268, Tryz.ntmps268
  go_wp2
  go_quiet (fail)
  go_wp2
  go_ret
  exact ⟨rfl, below_drewN ((Below.refl _ _).alloc (Nat.le_refl _) _) _⟩
theorem lowest_64 (w : World) : Calls Tryz.prog 269 #[.agg #[.int .i64 11, .int .i64 52]] w fun e w' => e = .returned (.int .i64 (-1074)) ∧ Below w.heap.size w w' := by
  go_enter Tryz.func269, Tryz.ntmps269
  go_wp2
  go_quiet (fail)
  go_wp2
  go_ret
  exact ⟨rfl, below_drewN ((Below.refl _ _).alloc (Nat.le_refl _) _) _⟩
theorem canonical_64 (w : World) : Calls Tryz.prog 242 #[.agg #[.int .i64 11, .int .i64 52]] w fun e w' => e = .returned (.int .u64 9221120237041090560) ∧ Below w.heap.size w w' := by
  have hw : IntKind.i64.wrap 51 = 51 := by decide
  go_enter Tryz.func242, Tryz.ntmps242
  go_wp2
  go_region_held3 (fun w' => w'.cell? ⟨w.heap.size, 0, none⟩ = some (.int .i64 11) ∧ w'.cell? ⟨w.heap.size, 1, none⟩ = some (.int .i64 52) ∧ Below w.heap.size w w')
    (first
      | exact ⟨by simp, by simp, ((Below.refl _ _).alloc (Nat.le_refl _) _).drew⟩
      | (go_split_ands; exact ⟨bkeep ‹_› hb, bkeep ‹_› hb, bnext ‹_› hb⟩))
    (first | (go_at_call 268; refine (infinity_64 _).mono ?_; rintro e w' ⟨rfl, hb⟩))
  go_wp2
  go_ret
  exact ⟨rfl, by go_split_ands; assumption⟩
theorem cut_64 (a : Nat) (ha : a < 18446744073709551616) (w : World) : Calls Tryz.prog 181 #[.agg #[.int .i64 11, .int .i64 52], .int .u64 a] w fun e w' => e = .returned (.int .u64 ((a % 18446744073709551616 : Nat) : Int)) ∧ Below w.heap.size w w' := by
  have hand : bits .and .u64 (a : Int) 18446744073709551615 = ((a % 18446744073709551616 : Nat) : Int) := by
    have := bits_and_u64_nat a 18446744073709551615 ha (by decide)
    rw [show (18446744073709551615 : Nat) = 2 ^ 64 - 1 by decide, Nat.and_two_pow_sub_one_eq_mod] at this
    exact this
  obtain ⟨y, hy⟩ : ∃ y : Nat, y = a % 18446744073709551616 := ⟨_, rfl⟩
  rw [← hy] at hand ⊢
  clear hy
  have hw : IntKind.u64.wrap 18446744073709551616 = 0 := by decide
  have hw2 : IntKind.u64.wrap (-1) = 18446744073709551615 := by decide
  go_enter Tryz.func181, Tryz.ntmps181
  go_wp2_with (go_at_call 240; refine (signBit_64 _).mono ?_; rintro e w' ⟨rfl, hb⟩)
  go_ret
  exact ⟨rfl, bnext ((Below.refl _ _).alloc (Nat.le_refl _) _) hb⟩
theorem size_64 (a : Nat) (ha : a < 18446744073709551616) (w : World) : Calls Tryz.prog 182 #[.agg #[.int .i64 11, .int .i64 52], .int .u64 a] w fun e w' => e = .returned (.int .u64 ((a % 9223372036854775808 : Nat) : Int)) ∧ Below w.heap.size w w' := by
  have hand : bits .andNot .u64 (a : Int) 9223372036854775808 = ((a % 9223372036854775808 : Nat) : Int) := bits_andNot_top 63 a (by decide) (by omega)
  obtain ⟨y, hy⟩ : ∃ y : Nat, y = a % 9223372036854775808 := ⟨_, rfl⟩
  rw [← hy] at hand ⊢
  clear hy
  go_enter Tryz.func182, Tryz.ntmps182
  go_wp2_with (go_at_call 240; refine (signBit_64 _).mono ?_; rintro e w' ⟨rfl, hb⟩)
  go_ret
  exact ⟨rfl, bnext ((Below.refl _ _).alloc (Nat.le_refl _) _) hb⟩
theorem sign_64 (a : Nat) (ha : a < 18446744073709551616) (w : World) : Calls Tryz.prog 189 #[.agg #[.int .i64 11, .int .i64 52], .int .u64 a] w fun e w' => e = .returned (.int .u64 ((if 9223372036854775808 ≤ a then 9223372036854775808 else 0 : Nat) : Int)) ∧ Below w.heap.size w w' := by
  have hand : bits .and .u64 (a : Int) 9223372036854775808 = ((if 9223372036854775808 ≤ a then 9223372036854775808 else 0 : Nat) : Int) := by
    have := bits_and_u64_nat a 9223372036854775808 (by omega) (by decide)
    rw [show (9223372036854775808 : Nat) = 2 ^ 63 by decide, word_and (by omega)] at this
    exact this
  obtain ⟨y, hy⟩ : ∃ y : Nat, y = (if 9223372036854775808 ≤ a then 9223372036854775808 else 0) := ⟨_, rfl⟩
  rw [← hy] at hand ⊢
  clear hy
  go_enter Tryz.func189, Tryz.ntmps189
  go_wp2_with (go_at_call 240; refine (signBit_64 _).mono ?_; rintro e w' ⟨rfl, hb⟩)
  go_ret
  exact ⟨rfl, bnext ((Below.refl _ _).alloc (Nat.le_refl _) _) hb⟩
theorem opposite_64 (a : Nat) (ha : a < 18446744073709551616) (w : World) : Calls Tryz.prog 183 #[.agg #[.int .i64 11, .int .i64 52], .int .u64 a] w fun e w' => e = .returned (.int .u64 ((if 9223372036854775808 ≤ a then a - 9223372036854775808 else a + 9223372036854775808 : Nat) : Int)) ∧ Below w.heap.size w w' := by
  have hand : bits .xor .u64 (a : Int) 9223372036854775808 = ((if 9223372036854775808 ≤ a then a - 9223372036854775808 else a + 9223372036854775808 : Nat) : Int) := by
    have := bits_xor_u64_nat a 9223372036854775808 (by omega) (by decide)
    rw [show (9223372036854775808 : Nat) = 2 ^ 63 by decide, word_xor (by omega)] at this
    exact this
  obtain ⟨y, hy⟩ : ∃ y : Nat, y = (if 9223372036854775808 ≤ a then a - 9223372036854775808 else a + 9223372036854775808) := ⟨_, rfl⟩
  rw [← hy] at hand ⊢
  clear hy
  go_enter Tryz.func183, Tryz.ntmps183
  go_wp2_with (go_at_call 240; refine (signBit_64 _).mono ?_; rintro e w' ⟨rfl, hb⟩)
  go_ret
  exact ⟨rfl, bnext ((Below.refl _ _).alloc (Nat.le_refl _) _) hb⟩
theorem kind_64 (a : Nat) (ha : a < 18446744073709551616) (w : World) : Calls Tryz.prog 241 #[.agg #[.int .i64 11, .int .i64 52], .int .u64 a] w fun e w' => e = .returned (.int .i64 ((kindOf 9218868437227405312 (a % 9223372036854775808) : Nat) : Int)) ∧ Below w.heap.size w w' := by
  have HS := fun w => hid (size_64 a ha w)
  have h0 : Below w.heap.size w w := Below.refl _ _
  obtain ⟨s, hs⟩ : ∃ s : Nat, s = a % 9223372036854775808 := ⟨_, rfl⟩
  rw [← hs] at HS ⊢
  have hs2 : s < 9223372036854775808 := by omega
  clear hs
  rcases Nat.eq_zero_or_pos s with h | h
  · subst h
    have hk : kindOf 9218868437227405312 0 = 1 := rfl
    rw [hk]; clear hk
    go_enter Tryz.func241, Tryz.ntmps241
    go_wp2_with (first
      | (go_at_call 182; refine (HS _).out.mono ?_; rintro e w1 ⟨rfl, hb⟩; have c0 := bkeep (a := ⟨w.heap.size, 0, none⟩) (v := .int .i64 11) (by simp) hb; have c1 := bkeep (a := ⟨w.heap.size, 1, none⟩) (v := .int .i64 52) (by simp) hb))
    go_ret
    exact ⟨rfl, bnext ((Below.refl _ _).alloc (Nat.le_refl _) _) hb⟩
  · rcases Nat.lt_trichotomy s 9218868437227405312 with h2 | h2 | h2
    · have hk : kindOf 9218868437227405312 s = 2 := by unfold kindOf; rw [if_neg (by omega), if_pos h2]
      rw [hk]; clear hk
      have e1 : ((s : Int) == 0) = false := by simp; omega
      have e2 : decide ((s : Int) < 9218868437227405312) = true := by simp; omega
      have e2' : ((s : Int) < 9218868437227405312) := by omega
      clear h h2 hs2
      go_enter Tryz.func241, Tryz.ntmps241
      go_wp2_with (first
        | (go_at_call 182; refine (HS _).out.mono ?_; rintro e w1 ⟨rfl, hb⟩; have c0 := bkeep (a := ⟨w.heap.size, 0, none⟩) (v := .int .i64 11) (by simp) hb; have c1 := bkeep (a := ⟨w.heap.size, 1, none⟩) (v := .int .i64 52) (by simp) hb)
        | (go_at_call 268; refine (infinity_64 _).mono ?_; rintro e w2 ⟨rfl, hb2⟩))
      go_ret
      exact ⟨rfl, bnext (bnext ((Below.refl _ _).alloc (Nat.le_refl _) _) hb) hb2⟩
    · subst h2
      have hk : kindOf 9218868437227405312 9218868437227405312 = 3 := rfl
      rw [hk]; clear hk
      go_enter Tryz.func241, Tryz.ntmps241
      go_wp2_with (first
        | (go_at_call 182; refine (HS _).out.mono ?_; rintro e w1 ⟨rfl, hb⟩; have c0 := bkeep (a := ⟨w.heap.size, 0, none⟩) (v := .int .i64 11) (by simp) hb; have c1 := bkeep (a := ⟨w.heap.size, 1, none⟩) (v := .int .i64 52) (by simp) hb)
        | (go_at_call 268; refine (infinity_64 _).mono ?_; rintro e w2 ⟨rfl, hb2⟩; have c2 := bkeep (a := ⟨w.heap.size, 0, none⟩) (v := .int .i64 11) (by simp [*]) hb2; have c3 := bkeep (a := ⟨w.heap.size, 1, none⟩) (v := .int .i64 52) (by simp [*]) hb2))
      go_ret
      exact ⟨rfl, bnext (bnext (bnext ((Below.refl _ _).alloc (Nat.le_refl _) _) hb) (by assumption)) hb2⟩
    · have hk : kindOf 9218868437227405312 s = 4 := by unfold kindOf; rw [if_neg (by omega), if_neg (by omega), if_neg (by omega)]
      rw [hk]; clear hk
      have e1 : ((s : Int) == 0) = false := by simp; omega
      have e2 : decide ((s : Int) < 9218868437227405312) = false := by simp; omega
      have e2' : ¬ ((s : Int) < 9218868437227405312) := by omega
      have e3 : ((s : Int) == 9218868437227405312) = false := by simp; omega
      clear h h2 hs2
      go_enter Tryz.func241, Tryz.ntmps241
      go_wp2_with (first
        | (go_at_call 182; refine (HS _).out.mono ?_; rintro e w1 ⟨rfl, hb⟩; have c0 := bkeep (a := ⟨w.heap.size, 0, none⟩) (v := .int .i64 11) (by simp) hb; have c1 := bkeep (a := ⟨w.heap.size, 1, none⟩) (v := .int .i64 52) (by simp) hb)
        | (go_at_call 268; refine (infinity_64 _).mono ?_; rintro e w2 ⟨rfl, hb2⟩; have c2 := bkeep (a := ⟨w.heap.size, 0, none⟩) (v := .int .i64 11) (by simp [*]) hb2; have c3 := bkeep (a := ⟨w.heap.size, 1, none⟩) (v := .int .i64 52) (by simp [*]) hb2))
      go_ret
      exact ⟨rfl, bnext (bnext (bnext ((Below.refl _ _).alloc (Nat.le_refl _) _) hb) (by assumption)) hb2⟩
end Go.Proofs.YtlhakbkdlgejpaaGreatDoor.Fl
namespace Go.Proofs.YtlhakbkdlgejpaaGreatDoor.Fl
open Go.RowKit
theorem balloc {w w1 : World} (h : Below w.heap.size w w1) (o : Obj) : Below w.heap.size w (w1.alloc o) := h.alloc h.size o
/-- Block g holds a format. -/
def Fb (E P : Int) (g : Nat) (W : World) : Prop := W.cell? ⟨g, 0, none⟩ = some (.int .i64 E) ∧ W.cell? ⟨g, 1, none⟩ = some (.int .i64 P)
/-- Block g holds a number. -/
def Nb (g : Nat) (ng : Bool) (m e : Int) (W : World) : Prop :=
  (W.cell? ⟨g, 0, none⟩ = some (.bool ng) ∧ W.cell? ⟨g, 1, none⟩ = some (.int .u64 m) ∧ W.cell? ⟨g, 2, none⟩ = some (.int .i64 e)) ∧
  (W.frozen? ⟨g, 0, none⟩ = false ∧ W.frozen? ⟨g, 1, none⟩ = false ∧ W.frozen? ⟨g, 2, none⟩ = false)
theorem Fb.lt {E P : Int} {g : Nat} {W : World} (h : Fb E P g W) : g < W.heap.size := World.block_lt_of_cell? _ _ h.1
theorem Nb.lt {g : Nat} {ng : Bool} {m e : Int} {W : World} (h : Nb g ng m e W) : g < W.heap.size := World.block_lt_of_cell? _ _ h.1.1
theorem Fb.call {E P : Int} {g : Nat} {W W' : World} (h : Fb E P g W) (hb : Below W.heap.size W W') : Fb E P g W' := ⟨bkeep h.1 hb, bkeep h.2 hb⟩
theorem Nb.call {g : Nat} {ng : Bool} {m e : Int} {W W' : World} (h : Nb g ng m e W) (hb : Below W.heap.size W W') : Nb g ng m e W' := by
  have hl := h.lt
  refine ⟨⟨bkeep h.1.1 hb, bkeep h.1.2.1 hb, bkeep h.1.2.2 hb⟩, ?_, ?_, ?_⟩
  · rw [hb.frozen (p := ⟨g, 0, none⟩) hl]; exact h.2.1
  · rw [hb.frozen (p := ⟨g, 1, none⟩) hl]; exact h.2.2.1
  · rw [hb.frozen (p := ⟨g, 2, none⟩) hl]; exact h.2.2.2
theorem ball (W : World) (o : Obj) : Below W.heap.size W (W.alloc o) := (Below.refl _ _).alloc (Nat.le_refl _) o
theorem Fb.alloc {E P : Int} {g : Nat} {W : World} (h : Fb E P g W) (o : Obj) : Fb E P g (W.alloc o) := h.call (ball W o)
theorem Nb.alloc {g : Nat} {ng : Bool} {m e : Int} {W : World} (h : Nb g ng m e W) (o : Obj) : Nb g ng m e (W.alloc o) := h.call (ball W o)
theorem Fb.drew {E P : Int} {g : Nat} {W : World} (h : Fb E P g W) : Fb E P g W.drew := h
theorem Nb.drew {g : Nat} {ng : Bool} {m e : Int} {W : World} (h : Nb g ng m e W) : Nb g ng m e W.drew := h
theorem Fb.new (E P : Int) (W : World) : Fb E P W.heap.size (W.alloc (.cells #[.int .i64 E, .int .i64 P] 141)) := ⟨by simp, by simp⟩
theorem Nb.new (ng : Bool) (m e : Int) (W : World) : Nb W.heap.size ng m e (W.alloc (.cells #[.bool ng, .int .u64 m, .int .i64 e] 193)) :=
  ⟨⟨by simp, by simp, by simp⟩, by simp, by simp, by simp⟩
theorem Fb.set {E P : Int} {g c o : Nat} {u : Value} {W : World} (h : Fb E P g W) (hne : c ≠ g) : Fb E P g (W.setCell ⟨c, o, none⟩ u) := by
  refine ⟨?_, ?_⟩
  · rw [World.cell?_setCell_far _ _ _ _ hne]; exact h.1
  · rw [World.cell?_setCell_far _ _ _ _ hne]; exact h.2
theorem bset {w w1 : World} {c o : Nat} {u : Value} (h : Below w.heap.size w w1) (hc : w.heap.size ≤ c) : Below w.heap.size w (w1.setCell ⟨c, o, none⟩ u) := h.setCell hc u
theorem frozen_set {W : World} {a p : Addr} {u : Value} : (W.setCell p u).frozen? a = W.frozen? a := by simp
theorem Nb.set {g c o : Nat} {ng : Bool} {m e : Int} {u : Value} {W : World} (h : Nb g ng m e W) (hne : c ≠ g) : Nb g ng m e (W.setCell ⟨c, o, none⟩ u) := by
  refine ⟨⟨?_, ?_, ?_⟩, ?_, ?_, ?_⟩
  · rw [World.cell?_setCell_far _ _ _ _ hne]; exact h.1.1
  · rw [World.cell?_setCell_far _ _ _ _ hne]; exact h.1.2.1
  · rw [World.cell?_setCell_far _ _ _ _ hne]; exact h.1.2.2
  · rw [frozen_set]; exact h.2.1
  · rw [frozen_set]; exact h.2.2.1
  · rw [frozen_set]; exact h.2.2.2
theorem sSame {W : World} {g o : Nat} {v u : Value} (h : W.cell? ⟨g, o, none⟩ = some u) : (W.setCell ⟨g, o, none⟩ v).cell? ⟨g, o, none⟩ = some v := World.cell?_setCell_same _ _ _ h
theorem sOther {W : World} {g o o' : Nat} {v u : Value} (h : W.cell? ⟨g, o', none⟩ = some u) (hne : o ≠ o') : (W.setCell ⟨g, o, none⟩ v).cell? ⟨g, o', none⟩ = some u := by
  rw [World.cell?_setCell_other _ _ _ _ (fun e => hne (by injection e))]; exact h
theorem Nb.store {g : Nat} {ng ng' : Bool} {m e m' e' : Int} {W : World} (h : Nb g ng m e W) :
    Nb g ng' m' e' (((W.setCell ⟨g, 0, none⟩ (.bool ng')).setCell ⟨g, 1, none⟩ (.int .u64 m')).setCell ⟨g, 2, none⟩ (.int .i64 e')) := by
  have h0 := h.1.1
  have h1 := h.1.2.1
  have h2 := h.1.2.2
  refine ⟨⟨sOther (sOther (sSame h0) (by decide)) (by decide), sOther (sSame (sOther h1 (by decide))) (by decide), sSame (sOther (sOther h2 (by decide)) (by decide))⟩, ?_, ?_, ?_⟩
  · simp only [frozen_set]; exact h.2.1
  · simp only [frozen_set]; exact h.2.2.1
  · simp only [frozen_set]; exact h.2.2.2
theorem Nb.setm {g : Nat} {ng : Bool} {m e m' : Int} {W : World} (h : Nb g ng m e W) : Nb g ng m' e (W.setCell ⟨g, 1, none⟩ (.int .u64 m')) := by
  have h0 := h.1.1
  have h1 := h.1.2.1
  have h2 := h.1.2.2
  refine ⟨⟨sOther h0 (by decide), sSame h1, sOther h2 (by decide)⟩, ?_, ?_, ?_⟩
  · simp only [frozen_set]; exact h.2.1
  · simp only [frozen_set]; exact h.2.2.1
  · simp only [frozen_set]; exact h.2.2.2
theorem Nb.sete {g : Nat} {ng : Bool} {m e e' : Int} {W : World} (h : Nb g ng m e W) : Nb g ng m e' (W.setCell ⟨g, 2, none⟩ (.int .i64 e')) := by
  have h0 := h.1.1
  have h1 := h.1.2.1
  have h2 := h.1.2.2
  refine ⟨⟨sOther h0 (by decide), sOther h1 (by decide), sSame h2⟩, ?_, ?_, ?_⟩
  · simp only [frozen_set]; exact h.2.1
  · simp only [frozen_set]; exact h.2.2.1
  · simp only [frozen_set]; exact h.2.2.2
/-- What a region of a function on formats keeps. -/
def Sx (E P : Int) (w W : World) : Prop := Fb E P w.heap.size W ∧ Below w.heap.size w W
theorem Sx.lt {E P : Int} {w W : World} (h : Sx E P w W) : w.heap.size < W.heap.size := h.1.lt
theorem Sx.call {E P : Int} {w W W' : World} (h : Sx E P w W) (hb : Below W.heap.size W W') : Sx E P w W' := ⟨h.1.call hb, bnext h.2 hb⟩
theorem Sx.alloc {E P : Int} {w W : World} (h : Sx E P w W) (o : Obj) : Sx E P w (W.alloc o) := h.call (ball W o)
theorem Sx.drew {E P : Int} {w W : World} (h : Sx E P w W) : Sx E P w W.drew := ⟨h.1, h.2.drew⟩
theorem Sx.drewN {E P : Int} {w W : World} (h : Sx E P w W) (n : Nat) : Sx E P w (W.drewN n) := ⟨h.1, below_drewN h.2 n⟩
theorem Sx.new (E P : Int) (w : World) : Sx E P w (w.alloc (.cells #[.int .i64 E, .int .i64 P] 141)) := ⟨Fb.new E P w, ball w _⟩
theorem Sx.set {E P : Int} {w W : World} {c o : Nat} {u : Value} (h : Sx E P w W) (hne : w.heap.size < c) : Sx E P w (W.setCell ⟨c, o, none⟩ u) := ⟨h.1.set (by omega), bset h.2 (by omega)⟩
end Go.Proofs.YtlhakbkdlgejpaaGreatDoor.Fl
namespace Go.Proofs.YtlhakbkdlgejpaaGreatDoor.Fl
open Go.RowKit
/-- The lower bound of a number that is not 0 when shifts by k and less are still to come. -/
def nlow (k : Nat) : Nat := if k = 0 then 2 ^ 63 else 2 ^ (64 - 2 * k)
/-- The state of normal's loop. -/
def NS (w : World) (ng : Bool) (m : Nat) (e : Int) (k : Nat) (wr : World) : Prop :=
  ∃ j : Nat, (j + 2 * k ≤ 64 ∧ j ≤ 63) ∧ (m ≠ 0 → nlow k ≤ m * 2 ^ j) ∧ m * 2 ^ j < 18446744073709551616 ∧ Nb w.heap.size ng ((m * 2 ^ j : Nat) : Int) (e - j) wr ∧ Nb (w.heap.size + 1) false 0 0 wr ∧ Below w.heap.size w wr
/-- What normal gives. -/
def NR (w : World) (ng : Bool) (m : Nat) (e : Int) (r : Ending) (w' : World) : Prop :=
  ∃ j : Nat, j ≤ 63 ∧ (m ≠ 0 → 9223372036854775808 ≤ m * 2 ^ j) ∧ m * 2 ^ j < 18446744073709551616 ∧ r = .returned (.agg #[.bool ng, .int .u64 ((m * 2 ^ j : Nat) : Int), .int .i64 (e - j)]) ∧ Below w.heap.size w w'
theorem NS.start (w : World) (ng : Bool) (m : Nat) (e : Int) (hm : m < 18446744073709551616) :
    NS w ng m e 32 ((w.alloc (.cells #[.bool ng, .int .u64 m, .int .i64 e] 193)).alloc (.cells #[.bool false, .int .u64 0, .int .i64 0] 193)) := by
  refine ⟨0, by omega, fun h => ?_, by simpa using hm, ?_, ?_, balloc (ball w _) _⟩
  · simp [nlow]; omega
  · have := (Nb.new ng m e w).alloc (.cells #[.bool false, .int .u64 0, .int .i64 0] 193)
    simpa using this
  · have := Nb.new false 0 0 (w.alloc (.cells #[.bool ng, .int .u64 m, .int .i64 e] 193))
    simpa using this
/-- A round that shifts. -/
theorem NS.shift {w wr : World} {ng : Bool} {m j : Nat} {e : Int} {k : Nat} (hj : j + 2 * k ≤ 64 ∧ j ≤ 63) (hk : k = 32 ∨ k = 16 ∨ k = 8 ∨ k = 4 ∨ k = 2 ∨ k = 1)
    (hl : m ≠ 0 → nlow k ≤ m * 2 ^ j) (hz : m * 2 ^ j / 2 ^ (64 - k) = 0) (hX : Nb w.heap.size ng ((m * 2 ^ j : Nat) : Int) (e - j) wr) (hR : Nb (w.heap.size + 1) false 0 0 wr) (hB : Below w.heap.size w wr)
    (m' e' : Int) (hm' : m' = ((m * 2 ^ j * 2 ^ k : Nat) : Int)) (he' : e' = e - j - k) :
    NS w ng m e (k / 2) ((wr.setCell ⟨w.heap.size, 1, none⟩ (.int .u64 m')).setCell ⟨w.heap.size, 2, none⟩ (.int .i64 e')) := by
  have hlt : m * 2 ^ j < 2 ^ (64 - k) := by
    rcases Nat.lt_or_ge (m * 2 ^ j) (2 ^ (64 - k)) with h | h
    · exact h
    · have := Nat.div_pos h (Nat.two_pow_pos _); omega
  have e1 : m * 2 ^ (j + k) = m * 2 ^ j * 2 ^ k := by rw [Nat.pow_add, Nat.mul_assoc]
  refine ⟨j + k, by omega, fun h => ?_, ?_, ?_, ?_, bset (bset hB (Nat.le_refl _)) (Nat.le_refl _)⟩
  · have := hl h
    rw [e1]
    generalize m * 2 ^ j = x at *
    rcases hk with rfl | rfl | rfl | rfl | rfl | rfl <;> simp [nlow] at this ⊢ <;> omega
  · rw [e1]
    generalize m * 2 ^ j = x at *
    rcases hk with rfl | rfl | rfl | rfl | rfl | rfl <;> simp at hlt ⊢ <;> omega
  · rw [e1, ← hm', show e - ((j + k : Nat) : Int) = e' by omega]
    exact hX.setm.sete
  · exact (hR.set (by omega)).set (by omega)
/-- A round that does not. -/
theorem NS.stay {w wr : World} {ng : Bool} {m j : Nat} {e : Int} {k : Nat} (hj : j + 2 * k ≤ 64 ∧ j ≤ 63) (hk : k = 32 ∨ k = 16 ∨ k = 8 ∨ k = 4 ∨ k = 2 ∨ k = 1)
    (hl : m ≠ 0 → nlow k ≤ m * 2 ^ j) (hlt : m * 2 ^ j < 18446744073709551616) (hz : ¬ m * 2 ^ j / 2 ^ (64 - k) = 0) (hX : Nb w.heap.size ng ((m * 2 ^ j : Nat) : Int) (e - j) wr) (hR : Nb (w.heap.size + 1) false 0 0 wr) (hB : Below w.heap.size w wr) :
    NS w ng m e (k / 2) wr := by
  refine ⟨j, by omega, fun h => ?_, hlt, hX, hR, hB⟩
  have : 2 ^ (64 - k) ≤ m * 2 ^ j := by
    rcases Nat.lt_or_ge (m * 2 ^ j) (2 ^ (64 - k)) with h | h
    · exact absurd (Nat.div_eq_of_lt h) hz
    · exact h
  generalize m * 2 ^ j = x at *
  rcases hk with rfl | rfl | rfl | rfl | rfl | rfl <;> simp [nlow] at this ⊢ <;> omega
set_option maxRecDepth 20000 in
set_option maxHeartbeats 6400000 in
theorem normal_any (ng : Bool) (m : Nat) (hm : m < 18446744073709551616) (e : Int) (he0 : -4611686018427387904 ≤ e) (he1 : e ≤ 4611686018427387904) (w : World) :
    Calls Tryz.prog 243 #[.agg #[.bool ng, .int .u64 m, .int .i64 e]] w (NR w ng m e) := by
  have HST := hid (NS.start w ng m e hm)
  go_enter Tryz.func243, Tryz.ntmps243
  go_wp2
  go_loopw [3] (fun k wr => ∃ kk : Nat, (kk = 32 ∨ kk = 16 ∨ kk = 8 ∨ kk = 4 ∨ kk = 2 ∨ kk = 1 ∨ kk = 0) ∧ k = .int .i64 kk ∧ NS w ng m e kk wr) (fun k _ => (intOf k).toNat)
  case atStart => exact ⟨32, by decide, rfl, HST.out⟩
  case round =>
    obtain ⟨kk, hkk, rfl, hN⟩ := hrel
    rename_i wr _
    clear HST
    obtain ⟨j, hj, hl, hlt, hX, hR, hB⟩ := hN
    obtain ⟨x, hx⟩ : ∃ x : Nat, x = m * 2 ^ j := ⟨_, rfl⟩
    obtain ⟨d, hd⟩ : ∃ d : Int, d = e - (j : Int) := ⟨_, rfl⟩
    have hd0 : -9223372036854775808 ≤ d - 64 := by omega
    have hd1 : d ≤ 9223372036854775807 := by omega
    have HX := hid hX
    have HR := hid hR
    have HB := hid hB
    have HL := hid hl
    have HJ := hid hj
    have HLT := hid hlt
    have Hx := hid hx
    have Hd := hid hd
    rw [← hx, ← hd] at hX
    rw [← hx] at hlt
    obtain ⟨⟨x0, x1, x2⟩, x3, x4, x5⟩ := hX
    obtain ⟨⟨r0, r1, r2⟩, r3, r4, r5⟩ := hR
    clear hx hd hB hl hj hm he0 he1
    rcases hkk with rfl | rfl | rfl | rfl | rfl | rfl | rfl
    · by_cases hz : x / 4294967296 = 0
      · have ht : (((x : Int) / 4294967296) == 0) = true := by simp; omega
        obtain ⟨y, hy⟩ : ∃ y : Nat, y = x * 4294967296 := ⟨_, rfl⟩
        have hyw : IntKind.u64.wrap (y : Int) = (y : Int) := by rw [IntKind.wrap_u64]; omega
        have hyw2 : (x : Int) * 4294967296 = (y : Int) := by omega
        have hw : wrap64 (d - 32) = d - 32 := by unfold wrap64; omega
        have Hy := hid hy
        have HZ := hid hz
        clear hy hz hlt hd0 hd1
        go_wp2
        go_roundw
        case rel => exact ⟨16, by decide, rfl, NS.shift (k := 32) HJ.out (by decide) HL.out (by rw [← Hx.out]; exact HZ.out) HX.out HR.out HB.out _ _ (by rw [← Hx.out, Hy.out]) (by rw [Hd.out]; rfl)⟩
        case measure => simp [intOf]
      · have ht : (((x : Int) / 4294967296) == 0) = false := by simp; omega
        have HZ := hid hz
        clear hz hlt hd0 hd1
        go_wp2
        go_roundw
        case rel => exact ⟨16, by decide, rfl, NS.stay (k := 32) HJ.out (by decide) HL.out HLT.out (by rw [← Hx.out]; exact HZ.out) HX.out HR.out HB.out⟩
        case measure => simp [intOf]
    · by_cases hz : x / 281474976710656 = 0
      · have ht : (((x : Int) / 281474976710656) == 0) = true := by simp; omega
        obtain ⟨y, hy⟩ : ∃ y : Nat, y = x * 65536 := ⟨_, rfl⟩
        have hyw : IntKind.u64.wrap (y : Int) = (y : Int) := by rw [IntKind.wrap_u64]; omega
        have hyw2 : (x : Int) * 65536 = (y : Int) := by omega
        have hw : wrap64 (d - 16) = d - 16 := by unfold wrap64; omega
        have Hy := hid hy
        have HZ := hid hz
        clear hy hz hlt hd0 hd1
        go_wp2
        go_roundw
        case rel => exact ⟨8, by decide, rfl, NS.shift (k := 16) HJ.out (by decide) HL.out (by rw [← Hx.out]; exact HZ.out) HX.out HR.out HB.out _ _ (by rw [← Hx.out, Hy.out]) (by rw [Hd.out]; rfl)⟩
        case measure => simp [intOf]
      · have ht : (((x : Int) / 281474976710656) == 0) = false := by simp; omega
        have HZ := hid hz
        clear hz hlt hd0 hd1
        go_wp2
        go_roundw
        case rel => exact ⟨8, by decide, rfl, NS.stay (k := 16) HJ.out (by decide) HL.out HLT.out (by rw [← Hx.out]; exact HZ.out) HX.out HR.out HB.out⟩
        case measure => simp [intOf]
    · by_cases hz : x / 72057594037927936 = 0
      · have ht : (((x : Int) / 72057594037927936) == 0) = true := by simp; omega
        obtain ⟨y, hy⟩ : ∃ y : Nat, y = x * 256 := ⟨_, rfl⟩
        have hyw : IntKind.u64.wrap (y : Int) = (y : Int) := by rw [IntKind.wrap_u64]; omega
        have hyw2 : (x : Int) * 256 = (y : Int) := by omega
        have hw : wrap64 (d - 8) = d - 8 := by unfold wrap64; omega
        have Hy := hid hy
        have HZ := hid hz
        clear hy hz hlt hd0 hd1
        go_wp2
        go_roundw
        case rel => exact ⟨4, by decide, rfl, NS.shift (k := 8) HJ.out (by decide) HL.out (by rw [← Hx.out]; exact HZ.out) HX.out HR.out HB.out _ _ (by rw [← Hx.out, Hy.out]) (by rw [Hd.out]; rfl)⟩
        case measure => simp [intOf]
      · have ht : (((x : Int) / 72057594037927936) == 0) = false := by simp; omega
        have HZ := hid hz
        clear hz hlt hd0 hd1
        go_wp2
        go_roundw
        case rel => exact ⟨4, by decide, rfl, NS.stay (k := 8) HJ.out (by decide) HL.out HLT.out (by rw [← Hx.out]; exact HZ.out) HX.out HR.out HB.out⟩
        case measure => simp [intOf]
    · by_cases hz : x / 1152921504606846976 = 0
      · have ht : (((x : Int) / 1152921504606846976) == 0) = true := by simp; omega
        obtain ⟨y, hy⟩ : ∃ y : Nat, y = x * 16 := ⟨_, rfl⟩
        have hyw : IntKind.u64.wrap (y : Int) = (y : Int) := by rw [IntKind.wrap_u64]; omega
        have hyw2 : (x : Int) * 16 = (y : Int) := by omega
        have hw : wrap64 (d - 4) = d - 4 := by unfold wrap64; omega
        have Hy := hid hy
        have HZ := hid hz
        clear hy hz hlt hd0 hd1
        go_wp2
        go_roundw
        case rel => exact ⟨2, by decide, rfl, NS.shift (k := 4) HJ.out (by decide) HL.out (by rw [← Hx.out]; exact HZ.out) HX.out HR.out HB.out _ _ (by rw [← Hx.out, Hy.out]) (by rw [Hd.out]; rfl)⟩
        case measure => simp [intOf]
      · have ht : (((x : Int) / 1152921504606846976) == 0) = false := by simp; omega
        have HZ := hid hz
        clear hz hlt hd0 hd1
        go_wp2
        go_roundw
        case rel => exact ⟨2, by decide, rfl, NS.stay (k := 4) HJ.out (by decide) HL.out HLT.out (by rw [← Hx.out]; exact HZ.out) HX.out HR.out HB.out⟩
        case measure => simp [intOf]
    · by_cases hz : x / 4611686018427387904 = 0
      · have ht : (((x : Int) / 4611686018427387904) == 0) = true := by simp; omega
        obtain ⟨y, hy⟩ : ∃ y : Nat, y = x * 4 := ⟨_, rfl⟩
        have hyw : IntKind.u64.wrap (y : Int) = (y : Int) := by rw [IntKind.wrap_u64]; omega
        have hyw2 : (x : Int) * 4 = (y : Int) := by omega
        have hw : wrap64 (d - 2) = d - 2 := by unfold wrap64; omega
        have Hy := hid hy
        have HZ := hid hz
        clear hy hz hlt hd0 hd1
        go_wp2
        go_roundw
        case rel => exact ⟨1, by decide, rfl, NS.shift (k := 2) HJ.out (by decide) HL.out (by rw [← Hx.out]; exact HZ.out) HX.out HR.out HB.out _ _ (by rw [← Hx.out, Hy.out]) (by rw [Hd.out]; rfl)⟩
        case measure => simp [intOf]
      · have ht : (((x : Int) / 4611686018427387904) == 0) = false := by simp; omega
        have HZ := hid hz
        clear hz hlt hd0 hd1
        go_wp2
        go_roundw
        case rel => exact ⟨1, by decide, rfl, NS.stay (k := 2) HJ.out (by decide) HL.out HLT.out (by rw [← Hx.out]; exact HZ.out) HX.out HR.out HB.out⟩
        case measure => simp [intOf]
    · by_cases hz : x / 9223372036854775808 = 0
      · have ht : (((x : Int) / 9223372036854775808) == 0) = true := by simp; omega
        obtain ⟨y, hy⟩ : ∃ y : Nat, y = x * 2 := ⟨_, rfl⟩
        have hyw : IntKind.u64.wrap (y : Int) = (y : Int) := by rw [IntKind.wrap_u64]; omega
        have hyw2 : (x : Int) * 2 = (y : Int) := by omega
        have hw : wrap64 (d - 1) = d - 1 := by unfold wrap64; omega
        have Hy := hid hy
        have HZ := hid hz
        clear hy hz hlt hd0 hd1
        go_wp2
        go_roundw
        case rel => exact ⟨0, by decide, rfl, NS.shift (k := 1) HJ.out (by decide) HL.out (by rw [← Hx.out]; exact HZ.out) HX.out HR.out HB.out _ _ (by rw [← Hx.out, Hy.out]) (by rw [Hd.out]; rfl)⟩
        case measure => simp [intOf]
      · have ht : (((x : Int) / 9223372036854775808) == 0) = false := by simp; omega
        have HZ := hid hz
        clear hz hlt hd0 hd1
        go_wp2
        go_roundw
        case rel => exact ⟨0, by decide, rfl, NS.stay (k := 1) HJ.out (by decide) HL.out HLT.out (by rw [← Hx.out]; exact HZ.out) HX.out HR.out HB.out⟩
        case measure => simp [intOf]
    · clear hd0 hd1 hlt
      go_wp2
      obtain ⟨⟨f0, f1, f2⟩, -⟩ := HR.out.store (ng' := ng) (m' := x) (e' := d)
      have hBf := bset (c := w.heap.size + 1) (o := 2) (u := .int .i64 d) (bset (c := w.heap.size + 1) (o := 1) (u := .int .u64 x) (bset (c := w.heap.size + 1) (o := 0) (u := .bool ng) HB.out (by omega)) (by omega)) (by omega)
      generalize ((wr.setCell ⟨w.heap.size + 1, 0, none⟩ (.bool ng)).setCell ⟨w.heap.size + 1, 1, none⟩ (.int .u64 x)).setCell ⟨w.heap.size + 1, 2, none⟩ (.int .i64 d) = wf at *
      exact bodyPost_ret (v := .agg #[.bool ng, .int .u64 x, .int .i64 d]) (by simp [results, Tryz.results243, go_sem, f0, f1, f2]) rfl ⟨j, HJ.out.2, HL.out, HLT.out, by rw [← Hx.out, ← Hd.out], hBf⟩
end Go.Proofs.YtlhakbkdlgejpaaGreatDoor.Fl
