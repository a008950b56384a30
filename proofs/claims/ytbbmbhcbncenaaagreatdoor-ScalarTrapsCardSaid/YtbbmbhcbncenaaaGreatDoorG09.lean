/-
  FSmall, FReg, FNormal, FRoundMath: merged, what the law does not reach left out (each text says what it holds where it lies in wip). No condition.
-/
import Derived.Test.YtbbmbhcbncenaaaGreatDoorG08
import Derived.LoopTactic
import Derived.Test.YtbbmbhcbncenaaaGreatDoorG01
set_option linter.unusedSimpArgs false
set_option linter.unusedVariables false
set_option maxRecDepth 100000
namespace Go.Proofs.YtbbmbhcbncenaaaGreatDoor.Fl
open Go.RowKit
def kindOf (INF s : Nat) : Nat := if s = 0 then 1 else if s < INF then 2 else if s = INF then 3 else 4
theorem known_no (w : World) : Calls Tryz.prog 121 #[.agg #[.int .i64 0,.int .i64 0]] w fun e w' => e = .returned (.bool false) ∧ Below w.heap.size w w' := by
 go_enter Tryz.func121,Tryz.ntmps121
 go_wp2
 go_ret
 exact ⟨rfl,(Below.refl _ _).alloc (Nat.le_refl _) _⟩
theorem formatOf_32 (w : World) : Calls Tryz.prog 120 #[.int .i64 32] w fun e w' => e = .returned (.agg #[.int .i64 8,.int .i64 23]) ∧ Below w.heap.size w w' := by
 go_enter Tryz.func120,Tryz.ntmps120
 go_wp2
 exact bodyPost_ret (v := .agg #[.int .i64 8,.int .i64 23]) (by simp [results,Tryz.results120,go_sem]) rfl ⟨rfl,(Below.refl _ _).alloc (Nat.le_refl _) _⟩
theorem known_32 (w : World) : Calls Tryz.prog 121 #[.agg #[.int .i64 8,.int .i64 23]] w fun e w' => e = .returned (.bool true) ∧ Below w.heap.size w w' := by
 go_enter Tryz.func121,Tryz.ntmps121
 go_wp2
 go_ret
 exact ⟨rfl,(Below.refl _ _).alloc (Nat.le_refl _) _⟩
theorem signBit_32 (w : World) : Calls Tryz.prog 156 #[.agg #[.int .i64 8,.int .i64 23]] w fun e w' => e = .returned (.int .u64 2147483648) ∧ Below w.heap.size w w' := by
 go_enter Tryz.func156,Tryz.ntmps156
 go_wp2
 go_ret
 exact ⟨rfl,(Below.refl _ _).alloc (Nat.le_refl _) _⟩
theorem infinity_32 (w : World) : Calls Tryz.prog 174 #[.agg #[.int .i64 8,.int .i64 23]] w fun e w' => e = .returned (.int .u64 2139095040) ∧ Below w.heap.size w w' := by
 go_enter Tryz.func174,Tryz.ntmps174
 go_wp2
 go_quiet (fail)
 go_wp2
 go_ret
 exact ⟨rfl,below_drewN ((Below.refl _ _).alloc (Nat.le_refl _) _) _⟩
theorem lowest_32 (w : World) : Calls Tryz.prog 175 #[.agg #[.int .i64 8,.int .i64 23]] w fun e w' => e = .returned (.int .i64 (-149)) ∧ Below w.heap.size w w' := by
 go_enter Tryz.func175,Tryz.ntmps175
 go_wp2
 go_quiet (fail)
 go_wp2
 go_ret
 exact ⟨rfl,below_drewN ((Below.refl _ _).alloc (Nat.le_refl _) _) _⟩
theorem canonical_32 (w : World) : Calls Tryz.prog 158 #[.agg #[.int .i64 8,.int .i64 23]] w fun e w' => e = .returned (.int .u64 2143289344) ∧ Below w.heap.size w w' := by
 have hw : IntKind.i64.wrap 22 = 22 := by decide
 go_enter Tryz.func158,Tryz.ntmps158
 go_wp2
 go_region_held3 (fun w' => w'.cell? ⟨w.heap.size,0,none⟩ = some (.int .i64 8) ∧ w'.cell? ⟨w.heap.size,1,none⟩ = some (.int .i64 23) ∧ Below w.heap.size w w')
  (first
   | exact ⟨by simp,by simp,((Below.refl _ _).alloc (Nat.le_refl _) _).drew⟩
   | (go_split_ands; exact ⟨bkeep ‹_› hb,bkeep ‹_› hb,bnext ‹_› hb⟩))
  (first | (go_at_call 174; refine (infinity_32 _).mono ?_; rintro e w' ⟨rfl,hb⟩))
 go_wp2
 go_ret
 exact ⟨rfl,by go_split_ands; assumption⟩
theorem cut_32 (a : Nat) (ha : a < 18446744073709551616) (w : World) : Calls Tryz.prog 122 #[.agg #[.int .i64 8,.int .i64 23],.int .u64 a] w fun e w' => e = .returned (.int .u64 ((a % 4294967296 : Nat) : Int)) ∧ Below w.heap.size w w' := by
 have hand : bits .and .u64 (a : Int) 4294967295 = ((a % 4294967296 : Nat) : Int) := by
  have := bits_and_u64_nat a 4294967295 ha (by decide)
  rw [show (4294967295 : Nat) = 2 ^ 32 - 1 by decide,Nat.and_two_pow_sub_one_eq_mod] at this
  exact this
 obtain ⟨y,hy⟩ : ∃ y : Nat,y = a % 4294967296 := ⟨_,rfl⟩
 rw [← hy] at hand ⊢
 clear hy
 have hw : IntKind.u64.wrap 4294967296 = 4294967296 := by decide
 have hw2 : IntKind.u64.wrap (4294967295) = 4294967295 := by decide
 go_enter Tryz.func122,Tryz.ntmps122
 go_wp2_with (go_at_call 156; refine (signBit_32 _).mono ?_; rintro e w' ⟨rfl,hb⟩)
 go_ret
 exact ⟨rfl,bnext ((Below.refl _ _).alloc (Nat.le_refl _) _) hb⟩
theorem size_32 (a : Nat) (ha : a < 4294967296) (w : World) : Calls Tryz.prog 130 #[.agg #[.int .i64 8,.int .i64 23],.int .u64 a] w fun e w' => e = .returned (.int .u64 ((a % 2147483648 : Nat) : Int)) ∧ Below w.heap.size w w' := by
 have hand : bits .andNot .u64 (a : Int) 2147483648 = ((a % 2147483648 : Nat) : Int) := bits_andNot_top 31 a (by decide) (by omega)
 obtain ⟨y,hy⟩ : ∃ y : Nat,y = a % 2147483648 := ⟨_,rfl⟩
 rw [← hy] at hand ⊢
 clear hy
 go_enter Tryz.func130,Tryz.ntmps130
 go_wp2_with (go_at_call 156; refine (signBit_32 _).mono ?_; rintro e w' ⟨rfl,hb⟩)
 go_ret
 exact ⟨rfl,bnext ((Below.refl _ _).alloc (Nat.le_refl _) _) hb⟩
theorem sign_32 (a : Nat) (ha : a < 4294967296) (w : World) : Calls Tryz.prog 135 #[.agg #[.int .i64 8,.int .i64 23],.int .u64 a] w fun e w' => e = .returned (.int .u64 ((if 2147483648 ≤ a then 2147483648 else 0 : Nat) : Int)) ∧ Below w.heap.size w w' := by
 have hand : bits .and .u64 (a : Int) 2147483648 = ((if 2147483648 ≤ a then 2147483648 else 0 : Nat) : Int) := by
  have := bits_and_u64_nat a 2147483648 (by omega) (by decide)
  rw [show (2147483648 : Nat) = 2 ^ 31 by decide,word_and (by omega)] at this
  exact this
 obtain ⟨y,hy⟩ : ∃ y : Nat,y = (if 2147483648 ≤ a then 2147483648 else 0) := ⟨_,rfl⟩
 rw [← hy] at hand ⊢
 clear hy
 go_enter Tryz.func135,Tryz.ntmps135
 go_wp2_with (go_at_call 156; refine (signBit_32 _).mono ?_; rintro e w' ⟨rfl,hb⟩)
 go_ret
 exact ⟨rfl,bnext ((Below.refl _ _).alloc (Nat.le_refl _) _) hb⟩
theorem opposite_32 (a : Nat) (ha : a < 4294967296) (w : World) : Calls Tryz.prog 131 #[.agg #[.int .i64 8,.int .i64 23],.int .u64 a] w fun e w' => e = .returned (.int .u64 ((if 2147483648 ≤ a then a - 2147483648 else a + 2147483648 : Nat) : Int)) ∧ Below w.heap.size w w' := by
 have hand : bits .xor .u64 (a : Int) 2147483648 = ((if 2147483648 ≤ a then a - 2147483648 else a + 2147483648 : Nat) : Int) := by
  have := bits_xor_u64_nat a 2147483648 (by omega) (by decide)
  rw [show (2147483648 : Nat) = 2 ^ 31 by decide,word_xor (by omega)] at this
  exact this
 obtain ⟨y,hy⟩ : ∃ y : Nat,y = (if 2147483648 ≤ a then a - 2147483648 else a + 2147483648) := ⟨_,rfl⟩
 rw [← hy] at hand ⊢
 clear hy
 go_enter Tryz.func131,Tryz.ntmps131
 go_wp2_with (go_at_call 156; refine (signBit_32 _).mono ?_; rintro e w' ⟨rfl,hb⟩)
 go_ret
 exact ⟨rfl,bnext ((Below.refl _ _).alloc (Nat.le_refl _) _) hb⟩
theorem kind_32 (a : Nat) (ha : a < 4294967296) (w : World) : Calls Tryz.prog 157 #[.agg #[.int .i64 8,.int .i64 23],.int .u64 a] w fun e w' => e = .returned (.int .i64 ((kindOf 2139095040 (a % 2147483648) : Nat) : Int)) ∧ Below w.heap.size w w' := by
 have HS := fun w => hid (size_32 a ha w)
 have h0 : Below w.heap.size w w := Below.refl _ _
 obtain ⟨s,hs⟩ : ∃ s : Nat,s = a % 2147483648 := ⟨_,rfl⟩
 rw [← hs] at HS ⊢
 have hs2 : s < 2147483648 := by omega
 clear hs
 rcases Nat.eq_zero_or_pos s with h | h
 ·subst h
  have hk : kindOf 2139095040 0 = 1 := rfl
  rw [hk]; clear hk
  go_enter Tryz.func157,Tryz.ntmps157
  go_wp2_with (first
   | (go_at_call 130; refine (HS _).out.mono ?_; rintro e w1 ⟨rfl,hb⟩; have c0 := bkeep (a := ⟨w.heap.size,0,none⟩) (v := .int .i64 8) (by simp) hb; have c1 := bkeep (a := ⟨w.heap.size,1,none⟩) (v := .int .i64 23) (by simp) hb))
  go_ret
  exact ⟨rfl,bnext ((Below.refl _ _).alloc (Nat.le_refl _) _) hb⟩
 ·rcases Nat.lt_trichotomy s 2139095040 with h2 | h2 | h2
  ·have hk : kindOf 2139095040 s = 2 := by unfold kindOf; rw [if_neg (by omega),if_pos h2]
   rw [hk]; clear hk
   have e1 : ((s : Int) == 0) = false := by simp; omega
   have e2 : decide ((s : Int) < 2139095040) = true := by simp; omega
   have e2' : ((s : Int) < 2139095040) := by omega
   clear h h2 hs2
   go_enter Tryz.func157,Tryz.ntmps157
   go_wp2_with (first
    | (go_at_call 130; refine (HS _).out.mono ?_; rintro e w1 ⟨rfl,hb⟩; have c0 := bkeep (a := ⟨w.heap.size,0,none⟩) (v := .int .i64 8) (by simp) hb; have c1 := bkeep (a := ⟨w.heap.size,1,none⟩) (v := .int .i64 23) (by simp) hb)
    | (go_at_call 174; refine (infinity_32 _).mono ?_; rintro e w2 ⟨rfl,hb2⟩))
   go_ret
   exact ⟨rfl,bnext (bnext ((Below.refl _ _).alloc (Nat.le_refl _) _) hb) hb2⟩
  ·subst h2
   have hk : kindOf 2139095040 2139095040 = 3 := rfl
   rw [hk]; clear hk
   go_enter Tryz.func157,Tryz.ntmps157
   go_wp2_with (first
    | (go_at_call 130; refine (HS _).out.mono ?_; rintro e w1 ⟨rfl,hb⟩; have c0 := bkeep (a := ⟨w.heap.size,0,none⟩) (v := .int .i64 8) (by simp) hb; have c1 := bkeep (a := ⟨w.heap.size,1,none⟩) (v := .int .i64 23) (by simp) hb)
    | (go_at_call 174; refine (infinity_32 _).mono ?_; rintro e w2 ⟨rfl,hb2⟩; have c2 := bkeep (a := ⟨w.heap.size,0,none⟩) (v := .int .i64 8) (by simp [*]) hb2; have c3 := bkeep (a := ⟨w.heap.size,1,none⟩) (v := .int .i64 23) (by simp [*]) hb2))
   go_ret
   exact ⟨rfl,bnext (bnext (bnext ((Below.refl _ _).alloc (Nat.le_refl _) _) hb) (by assumption)) hb2⟩
  ·have hk : kindOf 2139095040 s = 4 := by unfold kindOf; rw [if_neg (by omega),if_neg (by omega),if_neg (by omega)]
   rw [hk]; clear hk
   have e1 : ((s : Int) == 0) = false := by simp; omega
   have e2 : decide ((s : Int) < 2139095040) = false := by simp; omega
   have e2' : ¬ ((s : Int) < 2139095040) := by omega
   have e3 : ((s : Int) == 2139095040) = false := by simp; omega
   clear h h2 hs2
   go_enter Tryz.func157,Tryz.ntmps157
   go_wp2_with (first
    | (go_at_call 130; refine (HS _).out.mono ?_; rintro e w1 ⟨rfl,hb⟩; have c0 := bkeep (a := ⟨w.heap.size,0,none⟩) (v := .int .i64 8) (by simp) hb; have c1 := bkeep (a := ⟨w.heap.size,1,none⟩) (v := .int .i64 23) (by simp) hb)
    | (go_at_call 174; refine (infinity_32 _).mono ?_; rintro e w2 ⟨rfl,hb2⟩; have c2 := bkeep (a := ⟨w.heap.size,0,none⟩) (v := .int .i64 8) (by simp [*]) hb2; have c3 := bkeep (a := ⟨w.heap.size,1,none⟩) (v := .int .i64 23) (by simp [*]) hb2))
   go_ret
   exact ⟨rfl,bnext (bnext (bnext ((Below.refl _ _).alloc (Nat.le_refl _) _) hb) (by assumption)) hb2⟩
theorem formatOf_64 (w : World) : Calls Tryz.prog 120 #[.int .i64 64] w fun e w' => e = .returned (.agg #[.int .i64 11,.int .i64 52]) ∧ Below w.heap.size w w' := by
 go_enter Tryz.func120,Tryz.ntmps120
 go_wp2
 exact bodyPost_ret (v := .agg #[.int .i64 11,.int .i64 52]) (by simp [results,Tryz.results120,go_sem]) rfl ⟨rfl,(Below.refl _ _).alloc (Nat.le_refl _) _⟩
theorem known_64 (w : World) : Calls Tryz.prog 121 #[.agg #[.int .i64 11,.int .i64 52]] w fun e w' => e = .returned (.bool true) ∧ Below w.heap.size w w' := by
 go_enter Tryz.func121,Tryz.ntmps121
 go_wp2
 go_ret
 exact ⟨rfl,(Below.refl _ _).alloc (Nat.le_refl _) _⟩
theorem signBit_64 (w : World) : Calls Tryz.prog 156 #[.agg #[.int .i64 11,.int .i64 52]] w fun e w' => e = .returned (.int .u64 9223372036854775808) ∧ Below w.heap.size w w' := by
 go_enter Tryz.func156,Tryz.ntmps156
 go_wp2
 go_ret
 exact ⟨rfl,(Below.refl _ _).alloc (Nat.le_refl _) _⟩
theorem infinity_64 (w : World) : Calls Tryz.prog 174 #[.agg #[.int .i64 11,.int .i64 52]] w fun e w' => e = .returned (.int .u64 9218868437227405312) ∧ Below w.heap.size w w' := by
 go_enter Tryz.func174,Tryz.ntmps174
 go_wp2
 go_quiet (fail)
 go_wp2
 go_ret
 exact ⟨rfl,below_drewN ((Below.refl _ _).alloc (Nat.le_refl _) _) _⟩
theorem lowest_64 (w : World) : Calls Tryz.prog 175 #[.agg #[.int .i64 11,.int .i64 52]] w fun e w' => e = .returned (.int .i64 (-1074)) ∧ Below w.heap.size w w' := by
 go_enter Tryz.func175,Tryz.ntmps175
 go_wp2
 go_quiet (fail)
 go_wp2
 go_ret
 exact ⟨rfl,below_drewN ((Below.refl _ _).alloc (Nat.le_refl _) _) _⟩
theorem canonical_64 (w : World) : Calls Tryz.prog 158 #[.agg #[.int .i64 11,.int .i64 52]] w fun e w' => e = .returned (.int .u64 9221120237041090560) ∧ Below w.heap.size w w' := by
 have hw : IntKind.i64.wrap 51 = 51 := by decide
 go_enter Tryz.func158,Tryz.ntmps158
 go_wp2
 go_region_held3 (fun w' => w'.cell? ⟨w.heap.size,0,none⟩ = some (.int .i64 11) ∧ w'.cell? ⟨w.heap.size,1,none⟩ = some (.int .i64 52) ∧ Below w.heap.size w w')
  (first
   | exact ⟨by simp,by simp,((Below.refl _ _).alloc (Nat.le_refl _) _).drew⟩
   | (go_split_ands; exact ⟨bkeep ‹_› hb,bkeep ‹_› hb,bnext ‹_› hb⟩))
  (first | (go_at_call 174; refine (infinity_64 _).mono ?_; rintro e w' ⟨rfl,hb⟩))
 go_wp2
 go_ret
 exact ⟨rfl,by go_split_ands; assumption⟩
theorem cut_64 (a : Nat) (ha : a < 18446744073709551616) (w : World) : Calls Tryz.prog 122 #[.agg #[.int .i64 11,.int .i64 52],.int .u64 a] w fun e w' => e = .returned (.int .u64 ((a % 18446744073709551616 : Nat) : Int)) ∧ Below w.heap.size w w' := by
 have hand : bits .and .u64 (a : Int) 18446744073709551615 = ((a % 18446744073709551616 : Nat) : Int) := by
  have := bits_and_u64_nat a 18446744073709551615 ha (by decide)
  rw [show (18446744073709551615 : Nat) = 2 ^ 64 - 1 by decide,Nat.and_two_pow_sub_one_eq_mod] at this
  exact this
 obtain ⟨y,hy⟩ : ∃ y : Nat,y = a % 18446744073709551616 := ⟨_,rfl⟩
 rw [← hy] at hand ⊢
 clear hy
 have hw : IntKind.u64.wrap 18446744073709551616 = 0 := by decide
 have hw2 : IntKind.u64.wrap (-1) = 18446744073709551615 := by decide
 go_enter Tryz.func122,Tryz.ntmps122
 go_wp2_with (go_at_call 156; refine (signBit_64 _).mono ?_; rintro e w' ⟨rfl,hb⟩)
 go_ret
 exact ⟨rfl,bnext ((Below.refl _ _).alloc (Nat.le_refl _) _) hb⟩
theorem size_64 (a : Nat) (ha : a < 18446744073709551616) (w : World) : Calls Tryz.prog 130 #[.agg #[.int .i64 11,.int .i64 52],.int .u64 a] w fun e w' => e = .returned (.int .u64 ((a % 9223372036854775808 : Nat) : Int)) ∧ Below w.heap.size w w' := by
 have hand : bits .andNot .u64 (a : Int) 9223372036854775808 = ((a % 9223372036854775808 : Nat) : Int) := bits_andNot_top 63 a (by decide) (by omega)
 obtain ⟨y,hy⟩ : ∃ y : Nat,y = a % 9223372036854775808 := ⟨_,rfl⟩
 rw [← hy] at hand ⊢
 clear hy
 go_enter Tryz.func130,Tryz.ntmps130
 go_wp2_with (go_at_call 156; refine (signBit_64 _).mono ?_; rintro e w' ⟨rfl,hb⟩)
 go_ret
 exact ⟨rfl,bnext ((Below.refl _ _).alloc (Nat.le_refl _) _) hb⟩
theorem sign_64 (a : Nat) (ha : a < 18446744073709551616) (w : World) : Calls Tryz.prog 135 #[.agg #[.int .i64 11,.int .i64 52],.int .u64 a] w fun e w' => e = .returned (.int .u64 ((if 9223372036854775808 ≤ a then 9223372036854775808 else 0 : Nat) : Int)) ∧ Below w.heap.size w w' := by
 have hand : bits .and .u64 (a : Int) 9223372036854775808 = ((if 9223372036854775808 ≤ a then 9223372036854775808 else 0 : Nat) : Int) := by
  have := bits_and_u64_nat a 9223372036854775808 (by omega) (by decide)
  rw [show (9223372036854775808 : Nat) = 2 ^ 63 by decide,word_and (by omega)] at this
  exact this
 obtain ⟨y,hy⟩ : ∃ y : Nat,y = (if 9223372036854775808 ≤ a then 9223372036854775808 else 0) := ⟨_,rfl⟩
 rw [← hy] at hand ⊢
 clear hy
 go_enter Tryz.func135,Tryz.ntmps135
 go_wp2_with (go_at_call 156; refine (signBit_64 _).mono ?_; rintro e w' ⟨rfl,hb⟩)
 go_ret
 exact ⟨rfl,bnext ((Below.refl _ _).alloc (Nat.le_refl _) _) hb⟩
theorem opposite_64 (a : Nat) (ha : a < 18446744073709551616) (w : World) : Calls Tryz.prog 131 #[.agg #[.int .i64 11,.int .i64 52],.int .u64 a] w fun e w' => e = .returned (.int .u64 ((if 9223372036854775808 ≤ a then a - 9223372036854775808 else a + 9223372036854775808 : Nat) : Int)) ∧ Below w.heap.size w w' := by
 have hand : bits .xor .u64 (a : Int) 9223372036854775808 = ((if 9223372036854775808 ≤ a then a - 9223372036854775808 else a + 9223372036854775808 : Nat) : Int) := by
  have := bits_xor_u64_nat a 9223372036854775808 (by omega) (by decide)
  rw [show (9223372036854775808 : Nat) = 2 ^ 63 by decide,word_xor (by omega)] at this
  exact this
 obtain ⟨y,hy⟩ : ∃ y : Nat,y = (if 9223372036854775808 ≤ a then a - 9223372036854775808 else a + 9223372036854775808) := ⟨_,rfl⟩
 rw [← hy] at hand ⊢
 clear hy
 go_enter Tryz.func131,Tryz.ntmps131
 go_wp2_with (go_at_call 156; refine (signBit_64 _).mono ?_; rintro e w' ⟨rfl,hb⟩)
 go_ret
 exact ⟨rfl,bnext ((Below.refl _ _).alloc (Nat.le_refl _) _) hb⟩
theorem kind_64 (a : Nat) (ha : a < 18446744073709551616) (w : World) : Calls Tryz.prog 157 #[.agg #[.int .i64 11,.int .i64 52],.int .u64 a] w fun e w' => e = .returned (.int .i64 ((kindOf 9218868437227405312 (a % 9223372036854775808) : Nat) : Int)) ∧ Below w.heap.size w w' := by
 have HS := fun w => hid (size_64 a ha w)
 have h0 : Below w.heap.size w w := Below.refl _ _
 obtain ⟨s,hs⟩ : ∃ s : Nat,s = a % 9223372036854775808 := ⟨_,rfl⟩
 rw [← hs] at HS ⊢
 have hs2 : s < 9223372036854775808 := by omega
 clear hs
 rcases Nat.eq_zero_or_pos s with h | h
 ·subst h
  have hk : kindOf 9218868437227405312 0 = 1 := rfl
  rw [hk]; clear hk
  go_enter Tryz.func157,Tryz.ntmps157
  go_wp2_with (first
   | (go_at_call 130; refine (HS _).out.mono ?_; rintro e w1 ⟨rfl,hb⟩; have c0 := bkeep (a := ⟨w.heap.size,0,none⟩) (v := .int .i64 11) (by simp) hb; have c1 := bkeep (a := ⟨w.heap.size,1,none⟩) (v := .int .i64 52) (by simp) hb))
  go_ret
  exact ⟨rfl,bnext ((Below.refl _ _).alloc (Nat.le_refl _) _) hb⟩
 ·rcases Nat.lt_trichotomy s 9218868437227405312 with h2 | h2 | h2
  ·have hk : kindOf 9218868437227405312 s = 2 := by unfold kindOf; rw [if_neg (by omega),if_pos h2]
   rw [hk]; clear hk
   have e1 : ((s : Int) == 0) = false := by simp; omega
   have e2 : decide ((s : Int) < 9218868437227405312) = true := by simp; omega
   have e2' : ((s : Int) < 9218868437227405312) := by omega
   clear h h2 hs2
   go_enter Tryz.func157,Tryz.ntmps157
   go_wp2_with (first
    | (go_at_call 130; refine (HS _).out.mono ?_; rintro e w1 ⟨rfl,hb⟩; have c0 := bkeep (a := ⟨w.heap.size,0,none⟩) (v := .int .i64 11) (by simp) hb; have c1 := bkeep (a := ⟨w.heap.size,1,none⟩) (v := .int .i64 52) (by simp) hb)
    | (go_at_call 174; refine (infinity_64 _).mono ?_; rintro e w2 ⟨rfl,hb2⟩))
   go_ret
   exact ⟨rfl,bnext (bnext ((Below.refl _ _).alloc (Nat.le_refl _) _) hb) hb2⟩
  ·subst h2
   have hk : kindOf 9218868437227405312 9218868437227405312 = 3 := rfl
   rw [hk]; clear hk
   go_enter Tryz.func157,Tryz.ntmps157
   go_wp2_with (first
    | (go_at_call 130; refine (HS _).out.mono ?_; rintro e w1 ⟨rfl,hb⟩; have c0 := bkeep (a := ⟨w.heap.size,0,none⟩) (v := .int .i64 11) (by simp) hb; have c1 := bkeep (a := ⟨w.heap.size,1,none⟩) (v := .int .i64 52) (by simp) hb)
    | (go_at_call 174; refine (infinity_64 _).mono ?_; rintro e w2 ⟨rfl,hb2⟩; have c2 := bkeep (a := ⟨w.heap.size,0,none⟩) (v := .int .i64 11) (by simp [*]) hb2; have c3 := bkeep (a := ⟨w.heap.size,1,none⟩) (v := .int .i64 52) (by simp [*]) hb2))
   go_ret
   exact ⟨rfl,bnext (bnext (bnext ((Below.refl _ _).alloc (Nat.le_refl _) _) hb) (by assumption)) hb2⟩
  ·have hk : kindOf 9218868437227405312 s = 4 := by unfold kindOf; rw [if_neg (by omega),if_neg (by omega),if_neg (by omega)]
   rw [hk]; clear hk
   have e1 : ((s : Int) == 0) = false := by simp; omega
   have e2 : decide ((s : Int) < 9218868437227405312) = false := by simp; omega
   have e2' : ¬ ((s : Int) < 9218868437227405312) := by omega
   have e3 : ((s : Int) == 9218868437227405312) = false := by simp; omega
   clear h h2 hs2
   go_enter Tryz.func157,Tryz.ntmps157
   go_wp2_with (first
    | (go_at_call 130; refine (HS _).out.mono ?_; rintro e w1 ⟨rfl,hb⟩; have c0 := bkeep (a := ⟨w.heap.size,0,none⟩) (v := .int .i64 11) (by simp) hb; have c1 := bkeep (a := ⟨w.heap.size,1,none⟩) (v := .int .i64 52) (by simp) hb)
    | (go_at_call 174; refine (infinity_64 _).mono ?_; rintro e w2 ⟨rfl,hb2⟩; have c2 := bkeep (a := ⟨w.heap.size,0,none⟩) (v := .int .i64 11) (by simp [*]) hb2; have c3 := bkeep (a := ⟨w.heap.size,1,none⟩) (v := .int .i64 52) (by simp [*]) hb2))
   go_ret
   exact ⟨rfl,bnext (bnext (bnext ((Below.refl _ _).alloc (Nat.le_refl _) _) hb) (by assumption)) hb2⟩
end Go.Proofs.YtbbmbhcbncenaaaGreatDoor.Fl
namespace Go.Proofs.YtbbmbhcbncenaaaGreatDoor.Fl
open Go.RowKit
theorem sl0 {α : Type} (a b : α) (l : List α) : (a :: l).set 0 b = b :: l := rfl
theorem sl1 {α : Type} (a b : α) (l : List α) (n : Nat) : (a :: l).set (n + 1) b = a :: l.set n b := rfl
theorem sl2 {α : Type} (l : List α) (i : Nat) (a : α) : l.toArray.setIfInBounds i a = (l.set i a).toArray := by simp
theorem balloc {w w1 : World} (h : Below w.heap.size w w1) (o : Obj) : Below w.heap.size w (w1.alloc o) := h.alloc h.size o
def Fb (E P : Int) (g : Nat) (W : World) : Prop := W.cell? ⟨g,0,none⟩ = some (.int .i64 E) ∧ W.cell? ⟨g,1,none⟩ = some (.int .i64 P)
def Nb (g : Nat) (ng : Bool) (m e : Int) (W : World) : Prop :=
 (W.cell? ⟨g,0,none⟩ = some (.bool ng) ∧ W.cell? ⟨g,1,none⟩ = some (.int .u64 m) ∧ W.cell? ⟨g,2,none⟩ = some (.int .i64 e)) ∧
 (W.frozen? ⟨g,0,none⟩ = false ∧ W.frozen? ⟨g,1,none⟩ = false ∧ W.frozen? ⟨g,2,none⟩ = false)
theorem Fb.lt {E P : Int} {g : Nat} {W : World} (h : Fb E P g W) : g < W.heap.size := World.block_lt_of_cell? _ _ h.1
theorem Nb.lt {g : Nat} {ng : Bool} {m e : Int} {W : World} (h : Nb g ng m e W) : g < W.heap.size := World.block_lt_of_cell? _ _ h.1.1
theorem Fb.call {E P : Int} {g : Nat} {W W' : World} (h : Fb E P g W) (hb : Below W.heap.size W W') : Fb E P g W' := ⟨bkeep h.1 hb,bkeep h.2 hb⟩
theorem Nb.call {g : Nat} {ng : Bool} {m e : Int} {W W' : World} (h : Nb g ng m e W) (hb : Below W.heap.size W W') : Nb g ng m e W' := by
 have hl := h.lt
 refine ⟨⟨bkeep h.1.1 hb,bkeep h.1.2.1 hb,bkeep h.1.2.2 hb⟩,?_,?_,?_⟩
 ·rw [hb.frozen (p := ⟨g,0,none⟩) hl]; exact h.2.1
 ·rw [hb.frozen (p := ⟨g,1,none⟩) hl]; exact h.2.2.1
 ·rw [hb.frozen (p := ⟨g,2,none⟩) hl]; exact h.2.2.2
theorem ball (W : World) (o : Obj) : Below W.heap.size W (W.alloc o) := (Below.refl _ _).alloc (Nat.le_refl _) o
theorem Fb.alloc {E P : Int} {g : Nat} {W : World} (h : Fb E P g W) (o : Obj) : Fb E P g (W.alloc o) := h.call (ball W o)
theorem Nb.alloc {g : Nat} {ng : Bool} {m e : Int} {W : World} (h : Nb g ng m e W) (o : Obj) : Nb g ng m e (W.alloc o) := h.call (ball W o)
theorem Fb.drew {E P : Int} {g : Nat} {W : World} (h : Fb E P g W) : Fb E P g W.drew := h
theorem Nb.drew {g : Nat} {ng : Bool} {m e : Int} {W : World} (h : Nb g ng m e W) : Nb g ng m e W.drew := h
theorem Fb.new (E P : Int) (W : World) : Fb E P W.heap.size (W.alloc (.cells #[.int .i64 E,.int .i64 P] 114)) := ⟨by simp,by simp⟩
theorem Nb.new (ng : Bool) (m e : Int) (W : World) : Nb W.heap.size ng m e (W.alloc (.cells #[.bool ng,.int .u64 m,.int .i64 e] 153)) :=
 ⟨⟨by simp,by simp,by simp⟩,by simp,by simp,by simp⟩
theorem Fb.set {E P : Int} {g c o : Nat} {u : Value} {W : World} (h : Fb E P g W) (hne : c ≠ g) : Fb E P g (W.setCell ⟨c,o,none⟩ u) := by
 refine ⟨?_,?_⟩
 ·rw [World.cell?_setCell_far _ _ _ _ hne]; exact h.1
 ·rw [World.cell?_setCell_far _ _ _ _ hne]; exact h.2
theorem bset {w w1 : World} {c o : Nat} {u : Value} (h : Below w.heap.size w w1) (hc : w.heap.size ≤ c) : Below w.heap.size w (w1.setCell ⟨c,o,none⟩ u) := h.setCell hc u
theorem frozen_set {W : World} {a p : Addr} {u : Value} : (W.setCell p u).frozen? a = W.frozen? a := by simp
theorem Nb.set {g c o : Nat} {ng : Bool} {m e : Int} {u : Value} {W : World} (h : Nb g ng m e W) (hne : c ≠ g) : Nb g ng m e (W.setCell ⟨c,o,none⟩ u) := by
 refine ⟨⟨?_,?_,?_⟩,?_,?_,?_⟩
 ·rw [World.cell?_setCell_far _ _ _ _ hne]; exact h.1.1
 ·rw [World.cell?_setCell_far _ _ _ _ hne]; exact h.1.2.1
 ·rw [World.cell?_setCell_far _ _ _ _ hne]; exact h.1.2.2
 ·rw [frozen_set]; exact h.2.1
 ·rw [frozen_set]; exact h.2.2.1
 ·rw [frozen_set]; exact h.2.2.2
theorem sSame {W : World} {g o : Nat} {v u : Value} (h : W.cell? ⟨g,o,none⟩ = some u) : (W.setCell ⟨g,o,none⟩ v).cell? ⟨g,o,none⟩ = some v := World.cell?_setCell_same _ _ _ h
theorem sOther {W : World} {g o o' : Nat} {v u : Value} (h : W.cell? ⟨g,o',none⟩ = some u) (hne : o ≠ o') : (W.setCell ⟨g,o,none⟩ v).cell? ⟨g,o',none⟩ = some u := by
 rw [World.cell?_setCell_other _ _ _ _ (fun e => hne (by injection e))]; exact h
theorem Nb.store {g : Nat} {ng ng' : Bool} {m e m' e' : Int} {W : World} (h : Nb g ng m e W) :
  Nb g ng' m' e' (((W.setCell ⟨g,0,none⟩ (.bool ng')).setCell ⟨g,1,none⟩ (.int .u64 m')).setCell ⟨g,2,none⟩ (.int .i64 e')) := by
 have h0 := h.1.1
 have h1 := h.1.2.1
 have h2 := h.1.2.2
 refine ⟨⟨sOther (sOther (sSame h0) (by decide)) (by decide),sOther (sSame (sOther h1 (by decide))) (by decide),sSame (sOther (sOther h2 (by decide)) (by decide))⟩,?_,?_,?_⟩
 ·simp only [frozen_set]; exact h.2.1
 ·simp only [frozen_set]; exact h.2.2.1
 ·simp only [frozen_set]; exact h.2.2.2
theorem Nb.setm {g : Nat} {ng : Bool} {m e m' : Int} {W : World} (h : Nb g ng m e W) : Nb g ng m' e (W.setCell ⟨g,1,none⟩ (.int .u64 m')) := by
 have h0 := h.1.1
 have h1 := h.1.2.1
 have h2 := h.1.2.2
 refine ⟨⟨sOther h0 (by decide),sSame h1,sOther h2 (by decide)⟩,?_,?_,?_⟩
 ·simp only [frozen_set]; exact h.2.1
 ·simp only [frozen_set]; exact h.2.2.1
 ·simp only [frozen_set]; exact h.2.2.2
theorem Nb.sete {g : Nat} {ng : Bool} {m e e' : Int} {W : World} (h : Nb g ng m e W) : Nb g ng m e' (W.setCell ⟨g,2,none⟩ (.int .i64 e')) := by
 have h0 := h.1.1
 have h1 := h.1.2.1
 have h2 := h.1.2.2
 refine ⟨⟨sOther h0 (by decide),sOther h1 (by decide),sSame h2⟩,?_,?_,?_⟩
 ·simp only [frozen_set]; exact h.2.1
 ·simp only [frozen_set]; exact h.2.2.1
 ·simp only [frozen_set]; exact h.2.2.2
def Sx (E P : Int) (w W : World) : Prop := Fb E P w.heap.size W ∧ Below w.heap.size w W
theorem Sx.lt {E P : Int} {w W : World} (h : Sx E P w W) : w.heap.size < W.heap.size := h.1.lt
theorem Sx.call {E P : Int} {w W W' : World} (h : Sx E P w W) (hb : Below W.heap.size W W') : Sx E P w W' := ⟨h.1.call hb,bnext h.2 hb⟩
theorem Sx.alloc {E P : Int} {w W : World} (h : Sx E P w W) (o : Obj) : Sx E P w (W.alloc o) := h.call (ball W o)
theorem Sx.drew {E P : Int} {w W : World} (h : Sx E P w W) : Sx E P w W.drew := ⟨h.1,h.2.drew⟩
theorem Sx.drewN {E P : Int} {w W : World} (h : Sx E P w W) (n : Nat) : Sx E P w (W.drewN n) := ⟨h.1,below_drewN h.2 n⟩
theorem Sx.new (E P : Int) (w : World) : Sx E P w (w.alloc (.cells #[.int .i64 E,.int .i64 P] 114)) := ⟨Fb.new E P w,ball w _⟩
theorem Sx.set {E P : Int} {w W : World} {c o : Nat} {u : Value} (h : Sx E P w W) (hne : w.heap.size < c) : Sx E P w (W.setCell ⟨c,o,none⟩ u) := ⟨h.1.set (by omega),bset h.2 (by omega)⟩
theorem Nb.set3 {g c : Nat} {ng : Bool} {m e : Int} {W : World} (h : Nb g ng m e W) (u0 u1 u2 : Value) (hne : c ≠ g) : Nb g ng m e (((W.setCell ⟨c,0,none⟩ u0).setCell ⟨c,1,none⟩ u1).setCell ⟨c,2,none⟩ u2) := ((h.set hne).set hne).set hne
theorem Sx.set3 {E P : Int} {w W : World} {c : Nat} (h : Sx E P w W) (u0 u1 u2 : Value) (hne : w.heap.size < c) : Sx E P w (((W.setCell ⟨c,0,none⟩ u0).setCell ⟨c,1,none⟩ u1).setCell ⟨c,2,none⟩ u2) := ((h.set hne).set hne).set hne
end Go.Proofs.YtbbmbhcbncenaaaGreatDoor.Fl
namespace Go.Proofs.YtbbmbhcbncenaaaGreatDoor.Fl
open Go.RowKit
def nlow (k : Nat) : Nat := if k = 0 then 2 ^ 63 else 2 ^ (64 - 2 * k)
def NS (w : World) (ng : Bool) (m : Nat) (e : Int) (k : Nat) (wr : World) : Prop :=
 ∃ j : Nat,(j + 2 * k ≤ 64 ∧ j ≤ 63) ∧ (m ≠ 0 → nlow k ≤ m * 2 ^ j) ∧ m * 2 ^ j < 18446744073709551616 ∧ Nb w.heap.size ng ((m * 2 ^ j : Nat) : Int) (e - j) wr ∧ Nb (w.heap.size + 1) false 0 0 wr ∧ Below w.heap.size w wr
def NR (w : World) (ng : Bool) (m : Nat) (e : Int) (r : Ending) (w' : World) : Prop :=
 ∃ j : Nat,j ≤ 63 ∧ (m ≠ 0 → 9223372036854775808 ≤ m * 2 ^ j) ∧ m * 2 ^ j < 18446744073709551616 ∧ r = .returned (.agg #[.bool ng,.int .u64 ((m * 2 ^ j : Nat) : Int),.int .i64 (e - j)]) ∧ Below w.heap.size w w'
theorem NS.start (w : World) (ng : Bool) (m : Nat) (e : Int) (hm : m < 18446744073709551616) :
  NS w ng m e 32 ((w.alloc (.cells #[.bool ng,.int .u64 m,.int .i64 e] 153)).alloc (.cells #[.bool false,.int .u64 0,.int .i64 0] 153)) := by
 refine ⟨0,by omega,fun h => ?_,by simpa using hm,?_,?_,balloc (ball w _) _⟩
 ·simp [nlow]; omega
 ·have := (Nb.new ng m e w).alloc (.cells #[.bool false,.int .u64 0,.int .i64 0] 153)
  simpa using this
 ·have := Nb.new false 0 0 (w.alloc (.cells #[.bool ng,.int .u64 m,.int .i64 e] 153))
  simpa using this
theorem NS.shift {w wr : World} {ng : Bool} {m j : Nat} {e : Int} {k : Nat} (hj : j + 2 * k ≤ 64 ∧ j ≤ 63) (hk : k = 32 ∨ k = 16 ∨ k = 8 ∨ k = 4 ∨ k = 2 ∨ k = 1)
  (hl : m ≠ 0 → nlow k ≤ m * 2 ^ j) (hz : m * 2 ^ j / 2 ^ (64 - k) = 0) (hX : Nb w.heap.size ng ((m * 2 ^ j : Nat) : Int) (e - j) wr) (hR : Nb (w.heap.size + 1) false 0 0 wr) (hB : Below w.heap.size w wr)
  (m' e' : Int) (hm' : m' = ((m * 2 ^ j * 2 ^ k : Nat) : Int)) (he' : e' = e - j - k) :
  NS w ng m e (k / 2) ((wr.setCell ⟨w.heap.size,1,none⟩ (.int .u64 m')).setCell ⟨w.heap.size,2,none⟩ (.int .i64 e')) := by
 have hlt : m * 2 ^ j < 2 ^ (64 - k) := by
  rcases Nat.lt_or_ge (m * 2 ^ j) (2 ^ (64 - k)) with h | h
  ·exact h
  ·have := Nat.div_pos h (Nat.two_pow_pos _); omega
 have e1 : m * 2 ^ (j + k) = m * 2 ^ j * 2 ^ k := by rw [Nat.pow_add,Nat.mul_assoc]
 refine ⟨j + k,by omega,fun h => ?_,?_,?_,?_,bset (bset hB (Nat.le_refl _)) (Nat.le_refl _)⟩
 ·have := hl h
  rw [e1]
  generalize m * 2 ^ j = x at *
  rcases hk with rfl | rfl | rfl | rfl | rfl | rfl <;> simp [nlow] at this ⊢ <;> omega
 ·rw [e1]
  generalize m * 2 ^ j = x at *
  rcases hk with rfl | rfl | rfl | rfl | rfl | rfl <;> simp at hlt ⊢ <;> omega
 ·rw [e1,← hm',show e - ((j + k : Nat) : Int) = e' by omega]
  exact hX.setm.sete
 ·exact (hR.set (by omega)).set (by omega)
theorem NS.stay {w wr : World} {ng : Bool} {m j : Nat} {e : Int} {k : Nat} (hj : j + 2 * k ≤ 64 ∧ j ≤ 63) (hk : k = 32 ∨ k = 16 ∨ k = 8 ∨ k = 4 ∨ k = 2 ∨ k = 1)
  (hl : m ≠ 0 → nlow k ≤ m * 2 ^ j) (hlt : m * 2 ^ j < 18446744073709551616) (hz : ¬ m * 2 ^ j / 2 ^ (64 - k) = 0) (hX : Nb w.heap.size ng ((m * 2 ^ j : Nat) : Int) (e - j) wr) (hR : Nb (w.heap.size + 1) false 0 0 wr) (hB : Below w.heap.size w wr) :
  NS w ng m e (k / 2) wr := by
 refine ⟨j,by omega,fun h => ?_,hlt,hX,hR,hB⟩
 have : 2 ^ (64 - k) ≤ m * 2 ^ j := by
  rcases Nat.lt_or_ge (m * 2 ^ j) (2 ^ (64 - k)) with h | h
  ·exact absurd (Nat.div_eq_of_lt h) hz
  ·exact h
 generalize m * 2 ^ j = x at *
 rcases hk with rfl | rfl | rfl | rfl | rfl | rfl <;> simp [nlow] at this ⊢ <;> omega
set_option maxRecDepth 20000 in
set_option maxHeartbeats 6400000 in
theorem normal_any (ng : Bool) (m : Nat) (hm : m < 18446744073709551616) (e : Int) (he0 : -4611686018427387904 ≤ e) (he1 : e ≤ 4611686018427387904) (w : World) :
  Calls Tryz.prog 159 #[.agg #[.bool ng,.int .u64 m,.int .i64 e]] w (NR w ng m e) := by
 have HST := hid (NS.start w ng m e hm)
 go_enter Tryz.func159,Tryz.ntmps159
 go_wp2
 go_loopw [3] (fun k wr => ∃ kk : Nat,(kk = 32 ∨ kk = 16 ∨ kk = 8 ∨ kk = 4 ∨ kk = 2 ∨ kk = 1 ∨ kk = 0) ∧ k = .int .i64 kk ∧ NS w ng m e kk wr) (fun k _ => (intOf k).toNat)
 case atStart => exact ⟨32,by decide,rfl,HST.out⟩
 case round =>
  obtain ⟨kk,hkk,rfl,hN⟩ := hrel
  rename_i wr _
  clear HST
  obtain ⟨j,hj,hl,hlt,hX,hR,hB⟩ := hN
  obtain ⟨x,hx⟩ : ∃ x : Nat,x = m * 2 ^ j := ⟨_,rfl⟩
  obtain ⟨d,hd⟩ : ∃ d : Int,d = e - (j : Int) := ⟨_,rfl⟩
  have hd0 : -9223372036854775808 ≤ d - 64 := by omega
  have hd1 : d ≤ 9223372036854775807 := by omega
  have HX := hid hX
  have HR := hid hR
  have HB := hid hB
  have HL := hid hl
  have HJ := hid hj
  have HLT := hid hlt
  have Hx := hid hx
  have Hd := hid hd
  rw [← hx,← hd] at hX
  rw [← hx] at hlt
  obtain ⟨⟨x0,x1,x2⟩,x3,x4,x5⟩ := hX
  obtain ⟨⟨r0,r1,r2⟩,r3,r4,r5⟩ := hR
  clear hx hd hB hl hj hm he0 he1
  rcases hkk with rfl | rfl | rfl | rfl | rfl | rfl | rfl
  ·by_cases hz : x / 4294967296 = 0
   ·have ht : (((x : Int) / 4294967296) == 0) = true := by simp; omega
    obtain ⟨y,hy⟩ : ∃ y : Nat,y = x * 4294967296 := ⟨_,rfl⟩
    have hyw : IntKind.u64.wrap (y : Int) = (y : Int) := by rw [IntKind.wrap_u64]; omega
    have hyw2 : (x : Int) * 4294967296 = (y : Int) := by omega
    have hw : wrap64 (d - 32) = d - 32 := by unfold wrap64; omega
    have Hy := hid hy
    have HZ := hid hz
    clear hy hz hlt hd0 hd1
    go_wp2
    go_roundw
    case rel => exact ⟨16,by decide,rfl,NS.shift (k := 32) HJ.out (by decide) HL.out (by rw [← Hx.out]; exact HZ.out) HX.out HR.out HB.out _ _ (by rw [← Hx.out,Hy.out]) (by rw [Hd.out]; rfl)⟩
    case measure => simp [intOf]
   ·have ht : (((x : Int) / 4294967296) == 0) = false := by simp; omega
    have HZ := hid hz
    clear hz hlt hd0 hd1
    go_wp2
    go_roundw
    case rel => exact ⟨16,by decide,rfl,NS.stay (k := 32) HJ.out (by decide) HL.out HLT.out (by rw [← Hx.out]; exact HZ.out) HX.out HR.out HB.out⟩
    case measure => simp [intOf]
  ·by_cases hz : x / 281474976710656 = 0
   ·have ht : (((x : Int) / 281474976710656) == 0) = true := by simp; omega
    obtain ⟨y,hy⟩ : ∃ y : Nat,y = x * 65536 := ⟨_,rfl⟩
    have hyw : IntKind.u64.wrap (y : Int) = (y : Int) := by rw [IntKind.wrap_u64]; omega
    have hyw2 : (x : Int) * 65536 = (y : Int) := by omega
    have hw : wrap64 (d - 16) = d - 16 := by unfold wrap64; omega
    have Hy := hid hy
    have HZ := hid hz
    clear hy hz hlt hd0 hd1
    go_wp2
    go_roundw
    case rel => exact ⟨8,by decide,rfl,NS.shift (k := 16) HJ.out (by decide) HL.out (by rw [← Hx.out]; exact HZ.out) HX.out HR.out HB.out _ _ (by rw [← Hx.out,Hy.out]) (by rw [Hd.out]; rfl)⟩
    case measure => simp [intOf]
   ·have ht : (((x : Int) / 281474976710656) == 0) = false := by simp; omega
    have HZ := hid hz
    clear hz hlt hd0 hd1
    go_wp2
    go_roundw
    case rel => exact ⟨8,by decide,rfl,NS.stay (k := 16) HJ.out (by decide) HL.out HLT.out (by rw [← Hx.out]; exact HZ.out) HX.out HR.out HB.out⟩
    case measure => simp [intOf]
  ·by_cases hz : x / 72057594037927936 = 0
   ·have ht : (((x : Int) / 72057594037927936) == 0) = true := by simp; omega
    obtain ⟨y,hy⟩ : ∃ y : Nat,y = x * 256 := ⟨_,rfl⟩
    have hyw : IntKind.u64.wrap (y : Int) = (y : Int) := by rw [IntKind.wrap_u64]; omega
    have hyw2 : (x : Int) * 256 = (y : Int) := by omega
    have hw : wrap64 (d - 8) = d - 8 := by unfold wrap64; omega
    have Hy := hid hy
    have HZ := hid hz
    clear hy hz hlt hd0 hd1
    go_wp2
    go_roundw
    case rel => exact ⟨4,by decide,rfl,NS.shift (k := 8) HJ.out (by decide) HL.out (by rw [← Hx.out]; exact HZ.out) HX.out HR.out HB.out _ _ (by rw [← Hx.out,Hy.out]) (by rw [Hd.out]; rfl)⟩
    case measure => simp [intOf]
   ·have ht : (((x : Int) / 72057594037927936) == 0) = false := by simp; omega
    have HZ := hid hz
    clear hz hlt hd0 hd1
    go_wp2
    go_roundw
    case rel => exact ⟨4,by decide,rfl,NS.stay (k := 8) HJ.out (by decide) HL.out HLT.out (by rw [← Hx.out]; exact HZ.out) HX.out HR.out HB.out⟩
    case measure => simp [intOf]
  ·by_cases hz : x / 1152921504606846976 = 0
   ·have ht : (((x : Int) / 1152921504606846976) == 0) = true := by simp; omega
    obtain ⟨y,hy⟩ : ∃ y : Nat,y = x * 16 := ⟨_,rfl⟩
    have hyw : IntKind.u64.wrap (y : Int) = (y : Int) := by rw [IntKind.wrap_u64]; omega
    have hyw2 : (x : Int) * 16 = (y : Int) := by omega
    have hw : wrap64 (d - 4) = d - 4 := by unfold wrap64; omega
    have Hy := hid hy
    have HZ := hid hz
    clear hy hz hlt hd0 hd1
    go_wp2
    go_roundw
    case rel => exact ⟨2,by decide,rfl,NS.shift (k := 4) HJ.out (by decide) HL.out (by rw [← Hx.out]; exact HZ.out) HX.out HR.out HB.out _ _ (by rw [← Hx.out,Hy.out]) (by rw [Hd.out]; rfl)⟩
    case measure => simp [intOf]
   ·have ht : (((x : Int) / 1152921504606846976) == 0) = false := by simp; omega
    have HZ := hid hz
    clear hz hlt hd0 hd1
    go_wp2
    go_roundw
    case rel => exact ⟨2,by decide,rfl,NS.stay (k := 4) HJ.out (by decide) HL.out HLT.out (by rw [← Hx.out]; exact HZ.out) HX.out HR.out HB.out⟩
    case measure => simp [intOf]
  ·by_cases hz : x / 4611686018427387904 = 0
   ·have ht : (((x : Int) / 4611686018427387904) == 0) = true := by simp; omega
    obtain ⟨y,hy⟩ : ∃ y : Nat,y = x * 4 := ⟨_,rfl⟩
    have hyw : IntKind.u64.wrap (y : Int) = (y : Int) := by rw [IntKind.wrap_u64]; omega
    have hyw2 : (x : Int) * 4 = (y : Int) := by omega
    have hw : wrap64 (d - 2) = d - 2 := by unfold wrap64; omega
    have Hy := hid hy
    have HZ := hid hz
    clear hy hz hlt hd0 hd1
    go_wp2
    go_roundw
    case rel => exact ⟨1,by decide,rfl,NS.shift (k := 2) HJ.out (by decide) HL.out (by rw [← Hx.out]; exact HZ.out) HX.out HR.out HB.out _ _ (by rw [← Hx.out,Hy.out]) (by rw [Hd.out]; rfl)⟩
    case measure => simp [intOf]
   ·have ht : (((x : Int) / 4611686018427387904) == 0) = false := by simp; omega
    have HZ := hid hz
    clear hz hlt hd0 hd1
    go_wp2
    go_roundw
    case rel => exact ⟨1,by decide,rfl,NS.stay (k := 2) HJ.out (by decide) HL.out HLT.out (by rw [← Hx.out]; exact HZ.out) HX.out HR.out HB.out⟩
    case measure => simp [intOf]
  ·by_cases hz : x / 9223372036854775808 = 0
   ·have ht : (((x : Int) / 9223372036854775808) == 0) = true := by simp; omega
    obtain ⟨y,hy⟩ : ∃ y : Nat,y = x * 2 := ⟨_,rfl⟩
    have hyw : IntKind.u64.wrap (y : Int) = (y : Int) := by rw [IntKind.wrap_u64]; omega
    have hyw2 : (x : Int) * 2 = (y : Int) := by omega
    have hw : wrap64 (d - 1) = d - 1 := by unfold wrap64; omega
    have Hy := hid hy
    have HZ := hid hz
    clear hy hz hlt hd0 hd1
    go_wp2
    go_roundw
    case rel => exact ⟨0,by decide,rfl,NS.shift (k := 1) HJ.out (by decide) HL.out (by rw [← Hx.out]; exact HZ.out) HX.out HR.out HB.out _ _ (by rw [← Hx.out,Hy.out]) (by rw [Hd.out]; rfl)⟩
    case measure => simp [intOf]
   ·have ht : (((x : Int) / 9223372036854775808) == 0) = false := by simp; omega
    have HZ := hid hz
    clear hz hlt hd0 hd1
    go_wp2
    go_roundw
    case rel => exact ⟨0,by decide,rfl,NS.stay (k := 1) HJ.out (by decide) HL.out HLT.out (by rw [← Hx.out]; exact HZ.out) HX.out HR.out HB.out⟩
    case measure => simp [intOf]
  ·clear hd0 hd1 hlt
   go_wp2
   obtain ⟨⟨f0,f1,f2⟩,-⟩ := HR.out.store (ng' := ng) (m' := x) (e' := d)
   have hBf := bset (c := w.heap.size + 1) (o := 2) (u := .int .i64 d) (bset (c := w.heap.size + 1) (o := 1) (u := .int .u64 x) (bset (c := w.heap.size + 1) (o := 0) (u := .bool ng) HB.out (by omega)) (by omega)) (by omega)
   generalize ((wr.setCell ⟨w.heap.size + 1,0,none⟩ (.bool ng)).setCell ⟨w.heap.size + 1,1,none⟩ (.int .u64 x)).setCell ⟨w.heap.size + 1,2,none⟩ (.int .i64 d) = wf at *
   exact bodyPost_ret (v := .agg #[.bool ng,.int .u64 x,.int .i64 d]) (by simp [results,Tryz.results159,go_sem,f0,f1,f2]) rfl ⟨j,HJ.out.2,HL.out,HLT.out,by rw [← Hx.out,← Hd.out],hBf⟩
end Go.Proofs.YtbbmbhcbncenaaaGreatDoor.Fl
namespace Go.Proofs.YtbbmbhcbncenaaaGreatDoor.Fl
open Ieee
def Okf (f : Format) : Prop := f = single ∨ f = double
theorem rungR_big {f : Format} (hf : Okf f) {m : Nat} (hm : m ≠ 0) {e : Int} (he : 2048 ≤ e) (more : Bool) : rungR f m e more = f.infRung := by
 unfold rungR rungOf
 have hN : 2 * m + more.toNat ≠ 0 := by omega
 rw [if_neg hN]
 apply Nat.min_eq_right
 have hL : e - 1 + (2 * m + more.toNat).log2 - f.fractionBits ≤ lastP f (2 * m + more.toNat) (e - 1) := Int.le_max_left _ _
 have hlog : 1 ≤ (2 * m + more.toNat).log2 := by rw [Nat.le_log2 hN]; omega
 generalize lastP f (2 * m + more.toNat) (e - 1) = L at *
 refine Nat.le_trans ?_ (Nat.le_add_right _ _)
 rcases hf with rfl | rfl
 ·have h1 : (255 : Nat) ≤ (L - single.leastPlace).toNat := by
   simp only [show single.leastPlace = -149 from rfl,show single.fractionBits = 23 from rfl] at *; omega
  calc single.infRung = 255 * 2 ^ single.fractionBits := by decide
   _ ≤ _ := Nat.mul_le_mul_right _ h1
 ·have h1 : (2047 : Nat) ≤ (L - double.leastPlace).toNat := by
   simp only [show double.leastPlace = -1074 from rfl,show double.fractionBits = 52 from rfl] at *; omega
  calc double.infRung = 2047 * 2 ^ double.fractionBits := by decide
   _ ≤ _ := Nat.mul_le_mul_right _ h1
theorem log2_lt_of {n k : Nat} (h0 : n ≠ 0) (h : n < 2 ^ k) : n.log2 < k := (Nat.log2_lt h0).2 h
theorem rungR_small {f : Format} (hf : Okf f) {m : Nat} (hm : m < 18446744073709551616) {e : Int} (he : e ≤ -2048) (more : Bool) : rungR f m e more = 0 := by
 unfold rungR rungOf
 by_cases hN : 2 * m + more.toNat = 0
 ·rw [if_pos hN]
 ·rw [if_neg hN]
  have hmo := Bool.toNat_le more
  have hlog : (2 * m + more.toNat).log2 < 66 := log2_lt_of hN (by omega)
  have hL : lastP f (2 * m + more.toNat) (e - 1) = f.leastPlace := by
   apply Int.max_eq_right
   rcases hf with rfl | rfl
   ·simp only [show single.leastPlace = -149 from rfl,show single.fractionBits = 23 from rfl] at *; omega
   ·simp only [show double.leastPlace = -1074 from rfl,show double.fractionBits = 52 from rfl] at *; omega
  rw [hL]
  have hd : 100 ≤ (f.leastPlace - (e - 1)) := by
   rcases hf with rfl | rfl
   ·simp only [show single.leastPlace = -149 from rfl] at *; omega
   ·simp only [show double.leastPlace = -1074 from rfl] at *; omega
  have : rneI (2 * m + more.toNat) (f.leastPlace - (e - 1)) = 0 := by
   unfold rneI
   rw [if_pos (by omega),rne_big]
   have : (2 : Nat) ^ 100 ≤ 2 ^ (f.leastPlace - (e - 1)).toNat := Nat.pow_le_pow_right (by decide) (by omega)
   have h100 : (2 : Nat) ^ 100 = 1267650600228229401496703205376 := by decide
   omega
  rw [this]
  simp
def clamp (e : Int) : Int := max (-2048) (min e 2048)
theorem rungR_clamp {f : Format} (hf : Okf f) {m : Nat} (hm0 : m ≠ 0) (hm : m < 18446744073709551616) (e : Int) (more : Bool) : rungR f m (clamp e) more = rungR f m e more := by
 unfold clamp
 by_cases h1 : 2048 ≤ e
 ·rw [rungR_big hf hm0 h1,rungR_big hf hm0 (by omega)]
 ·by_cases h2 : e ≤ -2048
  ·rw [rungR_small hf hm h2,rungR_small hf hm (by omega)]
  ·congr 1; omega
def dropOf (f : Format) (d : Int) : Int := max (63 - f.fractionBits) (f.leastPlace - d)
theorem rungR_norm (f : Format) (hP : f.fractionBits ≤ 52) {y : Nat} (h1 : 9223372036854775808 ≤ y) (h2 : y < 18446744073709551616) (d : Int) (more : Bool) (D : Nat) (hD : dropOf f d = D) :
  rungR f y d more = min ((d + D - f.leastPlace).toNat * 2 ^ f.fractionBits + (y / 2 ^ D + if 2 ^ (D - 1) < y % 2 ^ D ∨ (y % 2 ^ D = 2 ^ (D - 1) ∧ (more = true ∨ y / 2 ^ D % 2 = 1)) then 1 else 0)) f.infRung := by
 have hmo := Bool.toNat_le more
 have hN : 2 * y + more.toNat ≠ 0 := by omega
 have hlog : (2 * y + more.toNat).log2 = 64 := by
  rw [Nat.log2_eq_iff hN]; constructor <;> omega
 unfold rungR rungOf
 rw [if_neg hN]
 have hD1 : 11 ≤ D := by unfold dropOf at hD; omega
 have hL : lastP f (2 * y + more.toNat) (d - 1) = d + D := by
  unfold lastP; rw [hlog,← hD]; unfold dropOf; omega
 rw [hL]
 congr 2
 unfold rneI
 rw [if_pos (by omega),show (d + ↑D - (d - 1)).toNat = D + 1 by omega]
 unfold rne
 obtain ⟨c,rfl⟩ : ∃ c,D = c + 1 := ⟨D - 1,by omega⟩
 have hp : 0 < 2 ^ c := Nat.two_pow_pos c
 have hdm := Nat.div_add_mod y (2 ^ (c + 1))
 have hml := Nat.mod_lt y (Nat.two_pow_pos (c + 1))
 have e1 : (2 : Nat) ^ (c + 1) = 2 * 2 ^ c := by rw [Nat.pow_succ]; omega
 have e2 : (2 : Nat) ^ (c + 1 + 1) = 4 * 2 ^ c := by rw [Nat.pow_succ,e1]; omega
 rw [show c + 1 - 1 = c by omega]
 rw [e1] at hdm hml ⊢
 rw [e2]
 generalize 2 ^ c = h at *
 generalize hq : y / (2 * h) = q at *
 generalize hr : y % (2 * h) = r at *
 have ey : 2 * y + more.toNat = (2 * r + more.toNat) + 4 * h * q := by
  rw [← hdm,Nat.mul_add]
  have : 2 * (2 * h * q) = 4 * h * q := by rw [← Nat.mul_assoc,← Nat.mul_assoc]
  omega
 have d1 : (2 * y + more.toNat) / (4 * h) = q := by
  rw [ey,Nat.add_mul_div_left _ _ (by omega),Nat.div_eq_of_lt (by omega)]; omega
 have m1 : (2 * y + more.toNat) % (4 * h) = 2 * r + more.toNat := by
  rw [ey,Nat.add_mul_mod_self_left,Nat.mod_eq_of_lt (by omega)]
 rw [d1,m1]
 congr 1
 have c0 : (4 * h < 2 * (2 * r + more.toNat) ∨ 4 * h = 2 * (2 * r + more.toNat) ∧ q % 2 = 1) ↔ (h < r ∨ r = h ∧ (more = true ∨ q % 2 = 1)) := by
  cases more <;> simp <;> omega
 simp only [c0]
theorem lost_eq (y D : Nat) (hD : D ≤ 64) : y * 2 ^ (64 - D) % 18446744073709551616 = y % 2 ^ D * 2 ^ (64 - D) := by
 have e : (18446744073709551616 : Nat) = 2 ^ D * 2 ^ (64 - D) := by rw [← Nat.pow_add,show D + (64 - D) = 64 by omega]
 rw [e,Nat.mul_mod_mul_right]
theorem lost_gt (y D : Nat) (h1 : 1 ≤ D) (hD : D ≤ 64) : (9223372036854775808 < y * 2 ^ (64 - D) % 18446744073709551616) = (2 ^ (D - 1) < y % 2 ^ D) := by
 rw [lost_eq y D hD]
 have e : (9223372036854775808 : Nat) = 2 ^ (D - 1) * 2 ^ (64 - D) := by rw [← Nat.pow_add,show D - 1 + (64 - D) = 63 by omega]
 rw [e]
 exact propext (Nat.mul_lt_mul_right (Nat.two_pow_pos _))
theorem lost_at (y D : Nat) (h1 : 1 ≤ D) (hD : D ≤ 64) : (y * 2 ^ (64 - D) % 18446744073709551616 = 9223372036854775808) = (y % 2 ^ D = 2 ^ (D - 1)) := by
 rw [lost_eq y D hD]
 have e : (9223372036854775808 : Nat) = 2 ^ (D - 1) * 2 ^ (64 - D) := by rw [← Nat.pow_add,show D - 1 + (64 - D) = 63 by omega]
 rw [e]
 exact propext ⟨fun h => Nat.eq_of_mul_eq_mul_right (Nat.two_pow_pos _) h,fun h => by rw [h]⟩
def upB (lost kept : Nat) (more : Bool) : Bool := decide (9223372036854775808 < lost) || (lost == 9223372036854775808 && (more || kept % 2 == 1))
theorem round_math {f : Format} (hf : Okf f) {m : Nat} (hm0 : m ≠ 0) (hm : m < 18446744073709551616) (e : Int) (more : Bool) (hmore : more = true → 288230376151711744 ≤ m)
  {j : Nat} (hj : 9223372036854775808 ≤ m * 2 ^ j) (hj2 : m * 2 ^ j < 18446744073709551616) (D : Nat) (hD : dropOf f (clamp e - j) = D) :
  (64 < D → rungR f m e more = 0) ∧
  (D ≤ 64 → rungR f m e more = min ((clamp e - j + D - f.leastPlace).toNat * 2 ^ f.fractionBits + (m * 2 ^ j / 2 ^ D + (upB (m * 2 ^ j * 2 ^ (64 - D) % 18446744073709551616) (m * 2 ^ j / 2 ^ D) more).toNat)) f.infRung) := by
 have hP : f.fractionBits ≤ 52 := by rcases hf with rfl | rfl <;> decide
 have hsc : rungR f m e more = rungR f (m * 2 ^ j) (clamp e - j) more := by
  rw [← rungR_clamp hf hm0 hm e more]
  refine (rungR_scale f m (clamp e) more j fun h => ?_).symm
  have := hmore h
  have : (2 : Nat) ^ (f.fractionBits + 1) ≤ 2 ^ 53 := Nat.pow_le_pow_right (by decide) (by omega)
  have : (2 : Nat) ^ 53 = 9007199254740992 := by decide
  omega
 rw [hsc,rungR_norm f hP hj hj2 (clamp e - j) more D hD]
 generalize m * 2 ^ j = y at *
 have hD1 : 11 ≤ D := by unfold dropOf at hD; omega
 constructor
 ·intro hbig
  have hlow : clamp e - j + D - f.leastPlace = 0 := by
   have : (63 - f.fractionBits : Int) ≤ 64 := by omega
   unfold dropOf at hD; omega
  have hpw : (2 : Nat) ^ 64 ≤ 2 ^ (D - 1) := Nat.pow_le_pow_right (by decide) (by omega)
  have hpw2 : (2 : Nat) ^ (D - 1) ≤ 2 ^ D := Nat.pow_le_pow_right (by decide) (by omega)
  have h64 : (2 : Nat) ^ 64 = 18446744073709551616 := by decide
  rw [hlow,Nat.div_eq_of_lt (by omega),Nat.mod_eq_of_lt (show y < 2 ^ D by omega)]
  rw [if_neg (by omega)]
  simp
 ·intro hle
  congr 3
  unfold upB
  have h1 := lost_gt y D (by omega) hle
  have h2 := lost_at y D (by omega) hle
  generalize y * 2 ^ (64 - D) % 18446744073709551616 = L at *
  by_cases hc : 2 ^ (D - 1) < y % 2 ^ D ∨ (y % 2 ^ D = 2 ^ (D - 1) ∧ (more = true ∨ y / 2 ^ D % 2 = 1))
  ·rw [if_pos hc]
   rw [← h1,← h2] at hc
   have : (decide (9223372036854775808 < L) || (L == 9223372036854775808 && (more || y / 2 ^ D % 2 == 1))) = true := by
    simp only [Bool.or_eq_true,decide_eq_true_eq,Bool.and_eq_true,beq_iff_eq]; exact hc
   rw [this]; rfl
  ·rw [if_neg hc]
   rw [← h1,← h2] at hc
   have : (decide (9223372036854775808 < L) || (L == 9223372036854775808 && (more || y / 2 ^ D % 2 == 1))) = false := by
    rw [Bool.eq_false_iff]
    intro h
    simp only [Bool.or_eq_true,decide_eq_true_eq,Bool.and_eq_true,beq_iff_eq] at h
    exact hc h
   rw [this]; rfl
end Go.Proofs.YtbbmbhcbncenaaaGreatDoor.Fl
