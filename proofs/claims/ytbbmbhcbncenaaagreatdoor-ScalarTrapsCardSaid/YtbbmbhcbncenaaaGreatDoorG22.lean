/-
  FFBin64, FWholeMath: merged, what the law does not reach left out (each text says what it holds where it lies in wip). No condition.
-/
import Derived.Test.YtbbmbhcbncenaaaGreatDoorG19
import Derived.Test.YtbbmbhcbncenaaaGreatDoorG20
import Derived.Test.YtbbmbhcbncenaaaGreatDoorG21
import Derived.Test.YtbbmbhcbncenaaaGreatDoorG14
import Derived.Test.YtbbmbhcbncenaaaGreatDoorG01
set_option linter.unusedSimpArgs false
set_option linter.unusedVariables false
set_option maxRecDepth 100000
namespace Go.Proofs.YtbbmbhcbncenaaaGreatDoor.Fl
open Go.RowKit
theorem quo_64 (a b : Nat) (ha : a < 18446744073709551616) (hb : b < 18446744073709551616) (hna : a % 9223372036854775808 ≤ 9218868437227405312) (hnb : b % 9223372036854775808 ≤ 9218868437227405312) (w : World) :
  Calls Tryz.prog 164 #[.agg #[.int .i64 11,.int .i64 52],.int .u64 a,.int .u64 b] w fun r w' => r = .returned (.int .u64 ((((Ieee.double).div a b).getD 9221120237041090560 : Nat) : Int)) ∧ Below w.heap.size w w' := by
 refine quo_all hna hnb _ fun i j hi hj h1 h2 => ?_
 rcases hi with rfl | rfl | rfl <;> rcases hj with rfl | rfl | rfl
 ·exact quo_64_eq a b 1 1 ha hb h1 h2 ⟨rfl,.inl rfl⟩ w
 ·exact quo_64_zero a b 1 2 ha hb h1 h2 (by decide) w
 ·exact quo_64_zero a b 1 3 ha hb h1 h2 (by decide) w
 ·exact quo_64_inf a b 2 1 ha hb h1 h2 (by decide) w
 ·exact quo_64_22 a b ha hb h1 h2 w
 ·exact quo_64_zero a b 2 3 ha hb h1 h2 (by decide) w
 ·exact quo_64_inf a b 3 1 ha hb h1 h2 (by decide) w
 ·exact quo_64_inf a b 3 2 ha hb h1 h2 (by decide) w
 ·exact quo_64_eq a b 3 3 ha hb h1 h2 ⟨rfl,.inr rfl⟩ w
theorem computed_64_nan (op : Int) (a b : Nat) (ha : a < 18446744073709551616) (hb : b < 18446744073709551616) (hn : nanW 9223372036854775808 9218868437227405312 a b = true) (w : World) :
  Calls Tryz.prog 134 #[.agg #[.int .i64 11,.int .i64 52],.int .i64 op,.int .u64 a,.int .u64 b] w fun r w' => r = .returned (.int .u64 9221120237041090560) ∧ Below w.heap.size w w' := by
 have HN := fun w => hid (anyNaN_64 a b ha hb w)
 rw [show decide (9218868437227405312 < a % 9223372036854775808 ∨ 9218868437227405312 < b % 9223372036854775808) = true from hn] at HN
 have hS := Sx.new 11 52 w
 obtain ⟨c0,c1⟩ := id hS.1
 clear ha hb hn
 go_enter Tryz.func134,Tryz.ntmps134
 go_wp2_with (first
  | (go_at_call 123; ((with_reducible refine (HN _).out.mono ?_); rintro e w1 ⟨rfl,hb⟩; replace hS := hS.call hb; have c0 := hS.1.1; have c1 := hS.1.2))
  | (go_at_call 158; ((with_reducible refine (canonical_64 _).mono ?_); rintro e w1 ⟨rfl,hb⟩; replace hS := hS.call hb)))
 go_ret
 exact ⟨rfl,hS.2⟩
set_option maxHeartbeats 3200000 in
theorem computed_64_1 (a b : Nat) (ha : a < 18446744073709551616) (hb : b < 18446744073709551616) (hn : nanW 9223372036854775808 9218868437227405312 a b = false) (w : World) :
  Calls Tryz.prog 134 #[.agg #[.int .i64 11,.int .i64 52],.int .i64 1,.int .u64 a,.int .u64 b] w fun r w' => r = .returned (.int .u64 ((binW Ieee.double 9 9223372036854775808 9218868437227405312 9221120237041090560 52 (-1074) 1 a b : Nat) : Int)) ∧ Below w.heap.size w w' := by
 have HN := fun w => hid (anyNaN_64 a b ha hb w)
 rw [show decide (9218868437227405312 < a % 9223372036854775808 ∨ 9218868437227405312 < b % 9223372036854775808) = false from hn] at HN
 have hn2 : a % 9223372036854775808 ≤ 9218868437227405312 ∧ b % 9223372036854775808 ≤ 9218868437227405312 := by unfold nanW at hn; simp at hn; omega
 have RA := fun w => hid (rank_64 a ha w)
 have RB := fun w => hid (rank_64 b hb w)
 obtain ⟨RR,hRR⟩ : ∃ RR : Nat,RR = binW Ieee.double 9 9223372036854775808 9218868437227405312 9221120237041090560 52 (-1074) 1 a b := ⟨_,rfl⟩
 rw [← hRR]
 unfold binW at hRR
 rw [if_neg (by rw [hn]; simp)] at hRR
 rw [if_pos rfl] at hRR
 have SC := fun w => hid (sum_64 a b ha hb hn2.1 hn2.2 w)
 rw [← hRR] at SC
 obtain ⟨x,hx⟩ : ∃ x : Int,x = rankOf 9223372036854775808 a := ⟨_,rfl⟩
 obtain ⟨y,hy⟩ : ∃ y : Int,y = rankOf 9223372036854775808 b := ⟨_,rfl⟩
 rw [← hx] at RA
 rw [← hy] at RB
 clear hRR hx hy
 have hS := Sx.new 11 52 w
 obtain ⟨c0,c1⟩ := id hS.1
 clear ha hb hn hn2
 go_enter Tryz.func134,Tryz.ntmps134
 go_upto_region 3 with (first
  | (go_at_call 123; ((with_reducible refine (HN _).out.mono ?_); rintro e w1 ⟨rfl,hb⟩; replace hS := hS.call hb; have c0 := hS.1.1; have c1 := hS.1.2)))
 go_cut [9,10] (fun s2 s3 wx => s2 = .int .i64 x ∧ s3 = .int .i64 y ∧ Sx 11 52 w wx)
 case first =>
  clear hb
  go_region_held3 (fun w' => w'.cell? ⟨w.heap.size,0,none⟩ = some (.int .i64 11) ∧ w'.cell? ⟨w.heap.size,1,none⟩ = some (.int .i64 52) ∧ Sx 11 52 w w')
   (first
    | exact ⟨c0,c1,hS.drew⟩
    | (go_split_ands; exact ⟨bkeep ‹_› hb,bkeep ‹_› hb,Sx.call ‹_› hb⟩)
    | (go_split_ands; exact ⟨‹_›,‹_›,‹_›⟩))
   (first
    | (go_at_call 124; ((with_reducible refine (RA _).out.mono ?_); rintro e w' ⟨rfl,hb⟩))
    | (go_at_call 124; ((with_reducible refine (RB _).out.mono ?_); rintro e w' ⟨rfl,hb⟩)))
  all_goals
   (go_wp2_with fail)
   go_meet
   go_split_ands
   exact ⟨rfl,rfl,‹_›⟩
 case rest =>
  clear hS c0 c1 hb
  obtain ⟨rfl,rfl,hS⟩ := hcut
  obtain ⟨c0,c1⟩ := id hS.1
  clear RA RB HN
  go_wp2_with (go_at_call 162; ((with_reducible refine (SC _).out.mono ?_); rintro e w1 ⟨rfl,hb⟩; replace hS := hS.call hb))
  go_ret
  exact ⟨rfl,hS.2⟩
set_option maxHeartbeats 3200000 in
theorem computed_64_2 (a b : Nat) (ha : a < 18446744073709551616) (hb : b < 18446744073709551616) (hn : nanW 9223372036854775808 9218868437227405312 a b = false) (w : World) :
  Calls Tryz.prog 134 #[.agg #[.int .i64 11,.int .i64 52],.int .i64 2,.int .u64 a,.int .u64 b] w fun r w' => r = .returned (.int .u64 ((binW Ieee.double 9 9223372036854775808 9218868437227405312 9221120237041090560 52 (-1074) 2 a b : Nat) : Int)) ∧ Below w.heap.size w w' := by
 have HN := fun w => hid (anyNaN_64 a b ha hb w)
 rw [show decide (9218868437227405312 < a % 9223372036854775808 ∨ 9218868437227405312 < b % 9223372036854775808) = false from hn] at HN
 have hn2 : a % 9223372036854775808 ≤ 9218868437227405312 ∧ b % 9223372036854775808 ≤ 9218868437227405312 := by unfold nanW at hn; simp at hn; omega
 have RA := fun w => hid (rank_64 a ha w)
 have RB := fun w => hid (rank_64 b hb w)
 obtain ⟨RR,hRR⟩ : ∃ RR : Nat,RR = binW Ieee.double 9 9223372036854775808 9218868437227405312 9221120237041090560 52 (-1074) 2 a b := ⟨_,rfl⟩
 rw [← hRR]
 unfold binW at hRR
 rw [if_neg (by rw [hn]; simp)] at hRR
 rw [if_neg (by decide),if_pos rfl] at hRR
 have hob : oppN 9223372036854775808 b < 18446744073709551616 ∧ oppN 9223372036854775808 b % 9223372036854775808 = b % 9223372036854775808 := by unfold oppN; split <;> omega
 have OC := fun w => hid (opposite_64 b hb w)
 have SC := fun w => hid (sum_64 a (oppN 9223372036854775808 b) ha hob.1 hn2.1 (by rw [hob.2]; exact hn2.2) w)
 rw [← hRR] at SC
 obtain ⟨o,ho⟩ : ∃ o : Nat,o = oppN 9223372036854775808 b := ⟨_,rfl⟩
 have OC2 : ∀ W,Hid (Calls Tryz.prog 131 #[.agg #[.int .i64 11,.int .i64 52],.int .u64 b] W fun e w' => e = .returned (.int .u64 (o : Int)) ∧ Below W.heap.size W w') := fun W => by rw [ho]; exact OC W
 rw [← ho] at SC
 clear ho hob OC
 obtain ⟨x,hx⟩ : ∃ x : Int,x = rankOf 9223372036854775808 a := ⟨_,rfl⟩
 obtain ⟨y,hy⟩ : ∃ y : Int,y = rankOf 9223372036854775808 b := ⟨_,rfl⟩
 rw [← hx] at RA
 rw [← hy] at RB
 clear hRR hx hy
 have hS := Sx.new 11 52 w
 obtain ⟨c0,c1⟩ := id hS.1
 clear ha hb hn hn2
 go_enter Tryz.func134,Tryz.ntmps134
 go_upto_region 3 with (first
  | (go_at_call 123; ((with_reducible refine (HN _).out.mono ?_); rintro e w1 ⟨rfl,hb⟩; replace hS := hS.call hb; have c0 := hS.1.1; have c1 := hS.1.2)))
 go_cut [9,10] (fun s2 s3 wx => s2 = .int .i64 x ∧ s3 = .int .i64 y ∧ Sx 11 52 w wx)
 case first =>
  clear hb
  go_region_held3 (fun w' => w'.cell? ⟨w.heap.size,0,none⟩ = some (.int .i64 11) ∧ w'.cell? ⟨w.heap.size,1,none⟩ = some (.int .i64 52) ∧ Sx 11 52 w w')
   (first
    | exact ⟨c0,c1,hS.drew⟩
    | (go_split_ands; exact ⟨bkeep ‹_› hb,bkeep ‹_› hb,Sx.call ‹_› hb⟩)
    | (go_split_ands; exact ⟨‹_›,‹_›,‹_›⟩))
   (first
    | (go_at_call 124; ((with_reducible refine (RA _).out.mono ?_); rintro e w' ⟨rfl,hb⟩))
    | (go_at_call 124; ((with_reducible refine (RB _).out.mono ?_); rintro e w' ⟨rfl,hb⟩)))
  all_goals
   (go_wp2_with fail)
   go_meet
   go_split_ands
   exact ⟨rfl,rfl,‹_›⟩
 case rest =>
  clear hS c0 c1 hb
  obtain ⟨rfl,rfl,hS⟩ := hcut
  obtain ⟨c0,c1⟩ := id hS.1
  clear RA RB HN
  go_wp2_with (first
   | (go_at_call 131; ((with_reducible refine (OC2 _).out.mono ?_); rintro e w1 ⟨rfl,hb⟩; replace hS := hS.call hb; have c0 := hS.1.1; have c1 := hS.1.2))
   | (go_at_call 162; ((with_reducible refine (SC _).out.mono ?_); rintro e w1 ⟨rfl,hb⟩; replace hS := hS.call hb)))
  go_ret
  exact ⟨rfl,hS.2⟩
set_option maxHeartbeats 3200000 in
theorem computed_64_3 (a b : Nat) (ha : a < 18446744073709551616) (hb : b < 18446744073709551616) (hn : nanW 9223372036854775808 9218868437227405312 a b = false) (w : World) :
  Calls Tryz.prog 134 #[.agg #[.int .i64 11,.int .i64 52],.int .i64 3,.int .u64 a,.int .u64 b] w fun r w' => r = .returned (.int .u64 ((binW Ieee.double 9 9223372036854775808 9218868437227405312 9221120237041090560 52 (-1074) 3 a b : Nat) : Int)) ∧ Below w.heap.size w w' := by
 have HN := fun w => hid (anyNaN_64 a b ha hb w)
 rw [show decide (9218868437227405312 < a % 9223372036854775808 ∨ 9218868437227405312 < b % 9223372036854775808) = false from hn] at HN
 have hn2 : a % 9223372036854775808 ≤ 9218868437227405312 ∧ b % 9223372036854775808 ≤ 9218868437227405312 := by unfold nanW at hn; simp at hn; omega
 have RA := fun w => hid (rank_64 a ha w)
 have RB := fun w => hid (rank_64 b hb w)
 obtain ⟨RR,hRR⟩ : ∃ RR : Nat,RR = binW Ieee.double 9 9223372036854775808 9218868437227405312 9221120237041090560 52 (-1074) 3 a b := ⟨_,rfl⟩
 rw [← hRR]
 unfold binW at hRR
 rw [if_neg (by rw [hn]; simp)] at hRR
 rw [if_neg (by decide),if_neg (by decide),if_pos rfl] at hRR
 have SC := fun w => hid (prod_64 a b ha hb hn2.1 hn2.2 w)
 rw [← hRR] at SC
 obtain ⟨x,hx⟩ : ∃ x : Int,x = rankOf 9223372036854775808 a := ⟨_,rfl⟩
 obtain ⟨y,hy⟩ : ∃ y : Int,y = rankOf 9223372036854775808 b := ⟨_,rfl⟩
 rw [← hx] at RA
 rw [← hy] at RB
 clear hRR hx hy
 have hS := Sx.new 11 52 w
 obtain ⟨c0,c1⟩ := id hS.1
 clear ha hb hn hn2
 go_enter Tryz.func134,Tryz.ntmps134
 go_upto_region 3 with (first
  | (go_at_call 123; ((with_reducible refine (HN _).out.mono ?_); rintro e w1 ⟨rfl,hb⟩; replace hS := hS.call hb; have c0 := hS.1.1; have c1 := hS.1.2)))
 go_cut [9,10] (fun s2 s3 wx => s2 = .int .i64 x ∧ s3 = .int .i64 y ∧ Sx 11 52 w wx)
 case first =>
  clear hb
  go_region_held3 (fun w' => w'.cell? ⟨w.heap.size,0,none⟩ = some (.int .i64 11) ∧ w'.cell? ⟨w.heap.size,1,none⟩ = some (.int .i64 52) ∧ Sx 11 52 w w')
   (first
    | exact ⟨c0,c1,hS.drew⟩
    | (go_split_ands; exact ⟨bkeep ‹_› hb,bkeep ‹_› hb,Sx.call ‹_› hb⟩)
    | (go_split_ands; exact ⟨‹_›,‹_›,‹_›⟩))
   (first
    | (go_at_call 124; ((with_reducible refine (RA _).out.mono ?_); rintro e w' ⟨rfl,hb⟩))
    | (go_at_call 124; ((with_reducible refine (RB _).out.mono ?_); rintro e w' ⟨rfl,hb⟩)))
  all_goals
   (go_wp2_with fail)
   go_meet
   go_split_ands
   exact ⟨rfl,rfl,‹_›⟩
 case rest =>
  clear hS c0 c1 hb
  obtain ⟨rfl,rfl,hS⟩ := hcut
  obtain ⟨c0,c1⟩ := id hS.1
  clear RA RB HN
  go_wp2_with (go_at_call 163; ((with_reducible refine (SC _).out.mono ?_); rintro e w1 ⟨rfl,hb⟩; replace hS := hS.call hb))
  go_ret
  exact ⟨rfl,hS.2⟩
set_option maxHeartbeats 3200000 in
theorem computed_64_4 (a b : Nat) (ha : a < 18446744073709551616) (hb : b < 18446744073709551616) (hn : nanW 9223372036854775808 9218868437227405312 a b = false) (w : World) :
  Calls Tryz.prog 134 #[.agg #[.int .i64 11,.int .i64 52],.int .i64 4,.int .u64 a,.int .u64 b] w fun r w' => r = .returned (.int .u64 ((binW Ieee.double 9 9223372036854775808 9218868437227405312 9221120237041090560 52 (-1074) 4 a b : Nat) : Int)) ∧ Below w.heap.size w w' := by
 have HN := fun w => hid (anyNaN_64 a b ha hb w)
 rw [show decide (9218868437227405312 < a % 9223372036854775808 ∨ 9218868437227405312 < b % 9223372036854775808) = false from hn] at HN
 have hn2 : a % 9223372036854775808 ≤ 9218868437227405312 ∧ b % 9223372036854775808 ≤ 9218868437227405312 := by unfold nanW at hn; simp at hn; omega
 have RA := fun w => hid (rank_64 a ha w)
 have RB := fun w => hid (rank_64 b hb w)
 obtain ⟨RR,hRR⟩ : ∃ RR : Nat,RR = binW Ieee.double 9 9223372036854775808 9218868437227405312 9221120237041090560 52 (-1074) 4 a b := ⟨_,rfl⟩
 rw [← hRR]
 unfold binW at hRR
 rw [if_neg (by rw [hn]; simp)] at hRR
 rw [if_neg (by decide),if_neg (by decide),if_neg (by decide),if_pos rfl] at hRR
 have SC := fun w => hid (quo_64 a b ha hb hn2.1 hn2.2 w)
 rw [← hRR] at SC
 obtain ⟨x,hx⟩ : ∃ x : Int,x = rankOf 9223372036854775808 a := ⟨_,rfl⟩
 obtain ⟨y,hy⟩ : ∃ y : Int,y = rankOf 9223372036854775808 b := ⟨_,rfl⟩
 rw [← hx] at RA
 rw [← hy] at RB
 clear hRR hx hy
 have hS := Sx.new 11 52 w
 obtain ⟨c0,c1⟩ := id hS.1
 clear ha hb hn hn2
 go_enter Tryz.func134,Tryz.ntmps134
 go_upto_region 3 with (first
  | (go_at_call 123; ((with_reducible refine (HN _).out.mono ?_); rintro e w1 ⟨rfl,hb⟩; replace hS := hS.call hb; have c0 := hS.1.1; have c1 := hS.1.2)))
 go_cut [9,10] (fun s2 s3 wx => s2 = .int .i64 x ∧ s3 = .int .i64 y ∧ Sx 11 52 w wx)
 case first =>
  clear hb
  go_region_held3 (fun w' => w'.cell? ⟨w.heap.size,0,none⟩ = some (.int .i64 11) ∧ w'.cell? ⟨w.heap.size,1,none⟩ = some (.int .i64 52) ∧ Sx 11 52 w w')
   (first
    | exact ⟨c0,c1,hS.drew⟩
    | (go_split_ands; exact ⟨bkeep ‹_› hb,bkeep ‹_› hb,Sx.call ‹_› hb⟩)
    | (go_split_ands; exact ⟨‹_›,‹_›,‹_›⟩))
   (first
    | (go_at_call 124; ((with_reducible refine (RA _).out.mono ?_); rintro e w' ⟨rfl,hb⟩))
    | (go_at_call 124; ((with_reducible refine (RB _).out.mono ?_); rintro e w' ⟨rfl,hb⟩)))
  all_goals
   (go_wp2_with fail)
   go_meet
   go_split_ands
   exact ⟨rfl,rfl,‹_›⟩
 case rest =>
  clear hS c0 c1 hb
  obtain ⟨rfl,rfl,hS⟩ := hcut
  obtain ⟨c0,c1⟩ := id hS.1
  clear RA RB HN
  go_wp2_with (go_at_call 164; ((with_reducible refine (SC _).out.mono ?_); rintro e w1 ⟨rfl,hb⟩; replace hS := hS.call hb))
  go_ret
  exact ⟨rfl,hS.2⟩
set_option maxHeartbeats 3200000 in
theorem computed_64_5 (a b : Nat) (ha : a < 18446744073709551616) (hb : b < 18446744073709551616) (hn : nanW 9223372036854775808 9218868437227405312 a b = false) (w : World) :
  Calls Tryz.prog 134 #[.agg #[.int .i64 11,.int .i64 52],.int .i64 5,.int .u64 a,.int .u64 b] w fun r w' => r = .returned (.int .u64 ((binW Ieee.double 9 9223372036854775808 9218868437227405312 9221120237041090560 52 (-1074) 5 a b : Nat) : Int)) ∧ Below w.heap.size w w' := by
 have HN := fun w => hid (anyNaN_64 a b ha hb w)
 rw [show decide (9218868437227405312 < a % 9223372036854775808 ∨ 9218868437227405312 < b % 9223372036854775808) = false from hn] at HN
 have hn2 : a % 9223372036854775808 ≤ 9218868437227405312 ∧ b % 9223372036854775808 ≤ 9218868437227405312 := by unfold nanW at hn; simp at hn; omega
 have RA := fun w => hid (rank_64 a ha w)
 have RB := fun w => hid (rank_64 b hb w)
 obtain ⟨RR,hRR⟩ : ∃ RR : Nat,RR = binW Ieee.double 9 9223372036854775808 9218868437227405312 9221120237041090560 52 (-1074) 5 a b := ⟨_,rfl⟩
 rw [← hRR]
 unfold binW at hRR
 rw [if_neg (by rw [hn]; simp)] at hRR
 rw [if_neg (by decide),if_neg (by decide),if_neg (by decide),if_neg (by decide),if_pos rfl] at hRR
 have hor := bits_or_u64_nat a b (by omega) (by omega)
 obtain ⟨x,hx⟩ : ∃ x : Int,x = rankOf 9223372036854775808 a := ⟨_,rfl⟩
 obtain ⟨y,hy⟩ : ∃ y : Int,y = rankOf 9223372036854775808 b := ⟨_,rfl⟩
 rw [← hx] at RA
 rw [← hy] at RB
 rw [← hx,← hy] at hRR
 obtain ⟨ab,hab⟩ : ∃ ab : Nat,ab = a ||| b := ⟨_,rfl⟩
 rw [← hab] at hor hRR
 have HRR := hid hRR
 clear hRR hx hy hab
 have hS := Sx.new 11 52 w
 obtain ⟨c0,c1⟩ := id hS.1
 clear ha hb hn hn2
 go_enter Tryz.func134,Tryz.ntmps134
 go_upto_region 3 with (first
  | (go_at_call 123; ((with_reducible refine (HN _).out.mono ?_); rintro e w1 ⟨rfl,hb⟩; replace hS := hS.call hb; have c0 := hS.1.1; have c1 := hS.1.2)))
 go_cut [9,10] (fun s2 s3 wx => s2 = .int .i64 x ∧ s3 = .int .i64 y ∧ Sx 11 52 w wx)
 case first =>
  clear hb
  go_region_held3 (fun w' => w'.cell? ⟨w.heap.size,0,none⟩ = some (.int .i64 11) ∧ w'.cell? ⟨w.heap.size,1,none⟩ = some (.int .i64 52) ∧ Sx 11 52 w w')
   (first
    | exact ⟨c0,c1,hS.drew⟩
    | (go_split_ands; exact ⟨bkeep ‹_› hb,bkeep ‹_› hb,Sx.call ‹_› hb⟩)
    | (go_split_ands; exact ⟨‹_›,‹_›,‹_›⟩))
   (first
    | (go_at_call 124; ((with_reducible refine (RA _).out.mono ?_); rintro e w' ⟨rfl,hb⟩))
    | (go_at_call 124; ((with_reducible refine (RB _).out.mono ?_); rintro e w' ⟨rfl,hb⟩)))
  all_goals
   (go_wp2_with fail)
   go_meet
   go_split_ands
   exact ⟨rfl,rfl,‹_›⟩
 case rest =>
  clear hS c0 c1 hb
  obtain ⟨rfl,rfl,hS⟩ := hcut
  obtain ⟨c0,c1⟩ := id hS.1
  clear RA RB HN
  rcases Int.lt_trichotomy x y with h | h | h
  ·have b1 : decide (y < x) = false := by simp; omega
   have b2 : decide (x < y) = true := by simp; omega
   have b3 : (y == x) = false := by simp; omega
   have HF : Hid (RR = a) := hid (by rw [HRR.out]; rw [if_neg (by omega),if_neg (by omega)])
   clear h
   go_wp2
   go_ret
   exact ⟨by rw [HF.out]; rfl,hS.2⟩
  ·subst h
   have HF : Hid (RR = ab) := hid (by rw [HRR.out,if_neg (by omega),if_pos rfl])
   go_wp2
   go_ret
   exact ⟨by rw [HF.out]; rfl,hS.2⟩
  ·have b1 : decide (y < x) = true := by simp; omega
   have b2 : decide (x < y) = false := by simp; omega
   have b3 : (y == x) = false := by simp; omega
   have HF : Hid (RR = b) := hid (by rw [HRR.out]; rw [if_pos (by omega)])
   clear h
   go_wp2
   go_ret
   exact ⟨by rw [HF.out]; rfl,hS.2⟩
set_option maxHeartbeats 3200000 in
theorem computed_64_6 (a b : Nat) (ha : a < 18446744073709551616) (hb : b < 18446744073709551616) (hn : nanW 9223372036854775808 9218868437227405312 a b = false) (w : World) :
  Calls Tryz.prog 134 #[.agg #[.int .i64 11,.int .i64 52],.int .i64 6,.int .u64 a,.int .u64 b] w fun r w' => r = .returned (.int .u64 ((binW Ieee.double 9 9223372036854775808 9218868437227405312 9221120237041090560 52 (-1074) 6 a b : Nat) : Int)) ∧ Below w.heap.size w w' := by
 have HN := fun w => hid (anyNaN_64 a b ha hb w)
 rw [show decide (9218868437227405312 < a % 9223372036854775808 ∨ 9218868437227405312 < b % 9223372036854775808) = false from hn] at HN
 have hn2 : a % 9223372036854775808 ≤ 9218868437227405312 ∧ b % 9223372036854775808 ≤ 9218868437227405312 := by unfold nanW at hn; simp at hn; omega
 have RA := fun w => hid (rank_64 a ha w)
 have RB := fun w => hid (rank_64 b hb w)
 obtain ⟨RR,hRR⟩ : ∃ RR : Nat,RR = binW Ieee.double 9 9223372036854775808 9218868437227405312 9221120237041090560 52 (-1074) 6 a b := ⟨_,rfl⟩
 rw [← hRR]
 unfold binW at hRR
 rw [if_neg (by rw [hn]; simp)] at hRR
 rw [if_neg (by decide),if_neg (by decide),if_neg (by decide),if_neg (by decide),if_neg (by decide),if_pos rfl] at hRR
 have hor := bits_and_u64_nat a b (by omega) (by omega)
 obtain ⟨x,hx⟩ : ∃ x : Int,x = rankOf 9223372036854775808 a := ⟨_,rfl⟩
 obtain ⟨y,hy⟩ : ∃ y : Int,y = rankOf 9223372036854775808 b := ⟨_,rfl⟩
 rw [← hx] at RA
 rw [← hy] at RB
 rw [← hx,← hy] at hRR
 obtain ⟨ab,hab⟩ : ∃ ab : Nat,ab = a &&& b := ⟨_,rfl⟩
 rw [← hab] at hor hRR
 have HRR := hid hRR
 clear hRR hx hy hab
 have hS := Sx.new 11 52 w
 obtain ⟨c0,c1⟩ := id hS.1
 clear ha hb hn hn2
 go_enter Tryz.func134,Tryz.ntmps134
 go_upto_region 3 with (first
  | (go_at_call 123; ((with_reducible refine (HN _).out.mono ?_); rintro e w1 ⟨rfl,hb⟩; replace hS := hS.call hb; have c0 := hS.1.1; have c1 := hS.1.2)))
 go_cut [9,10] (fun s2 s3 wx => s2 = .int .i64 x ∧ s3 = .int .i64 y ∧ Sx 11 52 w wx)
 case first =>
  clear hb
  go_region_held3 (fun w' => w'.cell? ⟨w.heap.size,0,none⟩ = some (.int .i64 11) ∧ w'.cell? ⟨w.heap.size,1,none⟩ = some (.int .i64 52) ∧ Sx 11 52 w w')
   (first
    | exact ⟨c0,c1,hS.drew⟩
    | (go_split_ands; exact ⟨bkeep ‹_› hb,bkeep ‹_› hb,Sx.call ‹_› hb⟩)
    | (go_split_ands; exact ⟨‹_›,‹_›,‹_›⟩))
   (first
    | (go_at_call 124; ((with_reducible refine (RA _).out.mono ?_); rintro e w' ⟨rfl,hb⟩))
    | (go_at_call 124; ((with_reducible refine (RB _).out.mono ?_); rintro e w' ⟨rfl,hb⟩)))
  all_goals
   (go_wp2_with fail)
   go_meet
   go_split_ands
   exact ⟨rfl,rfl,‹_›⟩
 case rest =>
  clear hS c0 c1 hb
  obtain ⟨rfl,rfl,hS⟩ := hcut
  obtain ⟨c0,c1⟩ := id hS.1
  clear RA RB HN
  rcases Int.lt_trichotomy x y with h | h | h
  ·have b1 : decide (y < x) = false := by simp; omega
   have b2 : decide (x < y) = true := by simp; omega
   have b3 : (y == x) = false := by simp; omega
   have HF : Hid (RR = b) := hid (by rw [HRR.out]; rw [if_pos (by omega)])
   clear h
   go_wp2
   go_ret
   exact ⟨by rw [HF.out]; rfl,hS.2⟩
  ·subst h
   have HF : Hid (RR = ab) := hid (by rw [HRR.out,if_neg (by omega),if_pos rfl])
   go_wp2
   go_ret
   exact ⟨by rw [HF.out]; rfl,hS.2⟩
  ·have b1 : decide (y < x) = true := by simp; omega
   have b2 : decide (x < y) = false := by simp; omega
   have b3 : (y == x) = false := by simp; omega
   have HF : Hid (RR = a) := hid (by rw [HRR.out]; rw [if_neg (by omega),if_neg (by omega)])
   clear h
   go_wp2
   go_ret
   exact ⟨by rw [HF.out]; rfl,hS.2⟩
set_option maxHeartbeats 3200000 in
theorem Bin_64_1 (a b : Nat) (ha : a < 18446744073709551616) (hb : b < 18446744073709551616) (w : World) :
  Calls Tryz.prog 70 #[.int .i64 64,.int .i64 1,.int .u64 a,.int .u64 b] w fun e w' => e = .returned (.tuple #[.int .u64 ((binW Ieee.double 9 9223372036854775808 9218868437227405312 9221120237041090560 52 (-1074) 1 (a % 18446744073709551616) (b % 18446744073709551616) : Nat) : Int),.int .i64 0]) ∧ Below w.heap.size w w' := by
 have CA := fun w => hid (cut_64 a ha w)
 have CB := fun w => hid (cut_64 b hb w)
 have ha1 : a % 18446744073709551616 < 18446744073709551616 := by omega
 have hb1 : b % 18446744073709551616 < 18446744073709551616 := by omega
 generalize a % 18446744073709551616 = a1 at *
 generalize b % 18446744073709551616 = b1 at *
 obtain ⟨RR,hRR⟩ : ∃ RR : Nat,RR = binW Ieee.double 9 9223372036854775808 9218868437227405312 9221120237041090560 52 (-1074) 1 a1 b1 := ⟨_,rfl⟩
 rw [← hRR]
 have CC : ∀ W,Hid (Calls Tryz.prog 134 #[.agg #[.int .i64 11,.int .i64 52],.int .i64 1,.int .u64 a1,.int .u64 b1] W fun r w' => r = .returned (.int .u64 (RR : Int)) ∧ Below W.heap.size W w') := fun W => by
  cases hn : nanW 9223372036854775808 9218868437227405312 a1 b1 with
  | true =>
   have h := computed_64_nan 1 a1 b1 ha1 hb1 hn W
   have : RR = 9221120237041090560 := by rw [hRR]; unfold binW; rw [if_pos ⟨by decide,hn⟩]
   rw [this]; exact h
  | false => rw [hRR]; exact computed_64_1 a1 b1 ha1 hb1 hn W
 clear hRR ha1 hb1
 clear ha hb
 go_enter Tryz.func70,Tryz.ntmps70
 go_wp2_with (first
  | (go_at_call 120; ((with_reducible refine (formatOf_64 _).mono ?_); rintro e w1 ⟨rfl,hb1⟩))
  | (go_at_call 121; ((with_reducible refine (known_64 _).mono ?_); rintro e w2 ⟨rfl,hb2⟩; have hS := (Sg.new 11 52 hb1).call hb2; obtain ⟨c0,c1⟩ := id hS.1)))
 go_cut [2,3] (fun s2 s3 wx => s2 = .int .u64 a1 ∧ s3 = .int .u64 b1 ∧ Sg 11 52 w w1.heap.size wx)
 case first =>
  go_region_held3 (fun w' => w'.cell? ⟨w1.heap.size,0,none⟩ = some (.int .i64 11) ∧ w'.cell? ⟨w1.heap.size,1,none⟩ = some (.int .i64 52) ∧ Sg 11 52 w w1.heap.size w')
    (first
     | exact ⟨c0,c1,hS.drew⟩
     | (go_split_ands; exact ⟨bkeep ‹_› hb,bkeep ‹_› hb,Sg.call ‹_› hb⟩)
     | (go_split_ands; exact ⟨‹_›,‹_›,‹_›⟩))
   (first
    | (go_at_call 122; ((with_reducible refine (CA _).out.mono ?_); rintro e w' ⟨rfl,hb⟩))
    | (go_at_call 122; ((with_reducible refine (CB _).out.mono ?_); rintro e w' ⟨rfl,hb⟩)))
  all_goals
   (go_wp2_with fail)
   go_meet
   go_split_ands
   exact ⟨rfl,rfl,‹_›⟩
 case rest =>
  clear hS c0 c1 CA CB
  obtain ⟨rfl,rfl,hS⟩ := hcut
  obtain ⟨c0,c1⟩ := id hS.1
  go_wp2_with (go_at_call 134; ((with_reducible refine (CC _).out.mono ?_); rintro e w4 ⟨rfl,hb4⟩))
  go_ret2
  exact ⟨rfl,bnext hS.2.2 hb4⟩
set_option maxHeartbeats 3200000 in
theorem Bin_64_2 (a b : Nat) (ha : a < 18446744073709551616) (hb : b < 18446744073709551616) (w : World) :
  Calls Tryz.prog 70 #[.int .i64 64,.int .i64 2,.int .u64 a,.int .u64 b] w fun e w' => e = .returned (.tuple #[.int .u64 ((binW Ieee.double 9 9223372036854775808 9218868437227405312 9221120237041090560 52 (-1074) 2 (a % 18446744073709551616) (b % 18446744073709551616) : Nat) : Int),.int .i64 0]) ∧ Below w.heap.size w w' := by
 have CA := fun w => hid (cut_64 a ha w)
 have CB := fun w => hid (cut_64 b hb w)
 have ha1 : a % 18446744073709551616 < 18446744073709551616 := by omega
 have hb1 : b % 18446744073709551616 < 18446744073709551616 := by omega
 generalize a % 18446744073709551616 = a1 at *
 generalize b % 18446744073709551616 = b1 at *
 obtain ⟨RR,hRR⟩ : ∃ RR : Nat,RR = binW Ieee.double 9 9223372036854775808 9218868437227405312 9221120237041090560 52 (-1074) 2 a1 b1 := ⟨_,rfl⟩
 rw [← hRR]
 have CC : ∀ W,Hid (Calls Tryz.prog 134 #[.agg #[.int .i64 11,.int .i64 52],.int .i64 2,.int .u64 a1,.int .u64 b1] W fun r w' => r = .returned (.int .u64 (RR : Int)) ∧ Below W.heap.size W w') := fun W => by
  cases hn : nanW 9223372036854775808 9218868437227405312 a1 b1 with
  | true =>
   have h := computed_64_nan 2 a1 b1 ha1 hb1 hn W
   have : RR = 9221120237041090560 := by rw [hRR]; unfold binW; rw [if_pos ⟨by decide,hn⟩]
   rw [this]; exact h
  | false => rw [hRR]; exact computed_64_2 a1 b1 ha1 hb1 hn W
 clear hRR ha1 hb1
 clear ha hb
 go_enter Tryz.func70,Tryz.ntmps70
 go_wp2_with (first
  | (go_at_call 120; ((with_reducible refine (formatOf_64 _).mono ?_); rintro e w1 ⟨rfl,hb1⟩))
  | (go_at_call 121; ((with_reducible refine (known_64 _).mono ?_); rintro e w2 ⟨rfl,hb2⟩; have hS := (Sg.new 11 52 hb1).call hb2; obtain ⟨c0,c1⟩ := id hS.1)))
 go_cut [2,3] (fun s2 s3 wx => s2 = .int .u64 a1 ∧ s3 = .int .u64 b1 ∧ Sg 11 52 w w1.heap.size wx)
 case first =>
  go_region_held3 (fun w' => w'.cell? ⟨w1.heap.size,0,none⟩ = some (.int .i64 11) ∧ w'.cell? ⟨w1.heap.size,1,none⟩ = some (.int .i64 52) ∧ Sg 11 52 w w1.heap.size w')
    (first
     | exact ⟨c0,c1,hS.drew⟩
     | (go_split_ands; exact ⟨bkeep ‹_› hb,bkeep ‹_› hb,Sg.call ‹_› hb⟩)
     | (go_split_ands; exact ⟨‹_›,‹_›,‹_›⟩))
   (first
    | (go_at_call 122; ((with_reducible refine (CA _).out.mono ?_); rintro e w' ⟨rfl,hb⟩))
    | (go_at_call 122; ((with_reducible refine (CB _).out.mono ?_); rintro e w' ⟨rfl,hb⟩)))
  all_goals
   (go_wp2_with fail)
   go_meet
   go_split_ands
   exact ⟨rfl,rfl,‹_›⟩
 case rest =>
  clear hS c0 c1 CA CB
  obtain ⟨rfl,rfl,hS⟩ := hcut
  obtain ⟨c0,c1⟩ := id hS.1
  go_wp2_with (go_at_call 134; ((with_reducible refine (CC _).out.mono ?_); rintro e w4 ⟨rfl,hb4⟩))
  go_ret2
  exact ⟨rfl,bnext hS.2.2 hb4⟩
set_option maxHeartbeats 3200000 in
theorem Bin_64_3 (a b : Nat) (ha : a < 18446744073709551616) (hb : b < 18446744073709551616) (w : World) :
  Calls Tryz.prog 70 #[.int .i64 64,.int .i64 3,.int .u64 a,.int .u64 b] w fun e w' => e = .returned (.tuple #[.int .u64 ((binW Ieee.double 9 9223372036854775808 9218868437227405312 9221120237041090560 52 (-1074) 3 (a % 18446744073709551616) (b % 18446744073709551616) : Nat) : Int),.int .i64 0]) ∧ Below w.heap.size w w' := by
 have CA := fun w => hid (cut_64 a ha w)
 have CB := fun w => hid (cut_64 b hb w)
 have ha1 : a % 18446744073709551616 < 18446744073709551616 := by omega
 have hb1 : b % 18446744073709551616 < 18446744073709551616 := by omega
 generalize a % 18446744073709551616 = a1 at *
 generalize b % 18446744073709551616 = b1 at *
 obtain ⟨RR,hRR⟩ : ∃ RR : Nat,RR = binW Ieee.double 9 9223372036854775808 9218868437227405312 9221120237041090560 52 (-1074) 3 a1 b1 := ⟨_,rfl⟩
 rw [← hRR]
 have CC : ∀ W,Hid (Calls Tryz.prog 134 #[.agg #[.int .i64 11,.int .i64 52],.int .i64 3,.int .u64 a1,.int .u64 b1] W fun r w' => r = .returned (.int .u64 (RR : Int)) ∧ Below W.heap.size W w') := fun W => by
  cases hn : nanW 9223372036854775808 9218868437227405312 a1 b1 with
  | true =>
   have h := computed_64_nan 3 a1 b1 ha1 hb1 hn W
   have : RR = 9221120237041090560 := by rw [hRR]; unfold binW; rw [if_pos ⟨by decide,hn⟩]
   rw [this]; exact h
  | false => rw [hRR]; exact computed_64_3 a1 b1 ha1 hb1 hn W
 clear hRR ha1 hb1
 clear ha hb
 go_enter Tryz.func70,Tryz.ntmps70
 go_wp2_with (first
  | (go_at_call 120; ((with_reducible refine (formatOf_64 _).mono ?_); rintro e w1 ⟨rfl,hb1⟩))
  | (go_at_call 121; ((with_reducible refine (known_64 _).mono ?_); rintro e w2 ⟨rfl,hb2⟩; have hS := (Sg.new 11 52 hb1).call hb2; obtain ⟨c0,c1⟩ := id hS.1)))
 go_cut [2,3] (fun s2 s3 wx => s2 = .int .u64 a1 ∧ s3 = .int .u64 b1 ∧ Sg 11 52 w w1.heap.size wx)
 case first =>
  go_region_held3 (fun w' => w'.cell? ⟨w1.heap.size,0,none⟩ = some (.int .i64 11) ∧ w'.cell? ⟨w1.heap.size,1,none⟩ = some (.int .i64 52) ∧ Sg 11 52 w w1.heap.size w')
    (first
     | exact ⟨c0,c1,hS.drew⟩
     | (go_split_ands; exact ⟨bkeep ‹_› hb,bkeep ‹_› hb,Sg.call ‹_› hb⟩)
     | (go_split_ands; exact ⟨‹_›,‹_›,‹_›⟩))
   (first
    | (go_at_call 122; ((with_reducible refine (CA _).out.mono ?_); rintro e w' ⟨rfl,hb⟩))
    | (go_at_call 122; ((with_reducible refine (CB _).out.mono ?_); rintro e w' ⟨rfl,hb⟩)))
  all_goals
   (go_wp2_with fail)
   go_meet
   go_split_ands
   exact ⟨rfl,rfl,‹_›⟩
 case rest =>
  clear hS c0 c1 CA CB
  obtain ⟨rfl,rfl,hS⟩ := hcut
  obtain ⟨c0,c1⟩ := id hS.1
  go_wp2_with (go_at_call 134; ((with_reducible refine (CC _).out.mono ?_); rintro e w4 ⟨rfl,hb4⟩))
  go_ret2
  exact ⟨rfl,bnext hS.2.2 hb4⟩
set_option maxHeartbeats 3200000 in
theorem Bin_64_4 (a b : Nat) (ha : a < 18446744073709551616) (hb : b < 18446744073709551616) (w : World) :
  Calls Tryz.prog 70 #[.int .i64 64,.int .i64 4,.int .u64 a,.int .u64 b] w fun e w' => e = .returned (.tuple #[.int .u64 ((binW Ieee.double 9 9223372036854775808 9218868437227405312 9221120237041090560 52 (-1074) 4 (a % 18446744073709551616) (b % 18446744073709551616) : Nat) : Int),.int .i64 0]) ∧ Below w.heap.size w w' := by
 have CA := fun w => hid (cut_64 a ha w)
 have CB := fun w => hid (cut_64 b hb w)
 have ha1 : a % 18446744073709551616 < 18446744073709551616 := by omega
 have hb1 : b % 18446744073709551616 < 18446744073709551616 := by omega
 generalize a % 18446744073709551616 = a1 at *
 generalize b % 18446744073709551616 = b1 at *
 obtain ⟨RR,hRR⟩ : ∃ RR : Nat,RR = binW Ieee.double 9 9223372036854775808 9218868437227405312 9221120237041090560 52 (-1074) 4 a1 b1 := ⟨_,rfl⟩
 rw [← hRR]
 have CC : ∀ W,Hid (Calls Tryz.prog 134 #[.agg #[.int .i64 11,.int .i64 52],.int .i64 4,.int .u64 a1,.int .u64 b1] W fun r w' => r = .returned (.int .u64 (RR : Int)) ∧ Below W.heap.size W w') := fun W => by
  cases hn : nanW 9223372036854775808 9218868437227405312 a1 b1 with
  | true =>
   have h := computed_64_nan 4 a1 b1 ha1 hb1 hn W
   have : RR = 9221120237041090560 := by rw [hRR]; unfold binW; rw [if_pos ⟨by decide,hn⟩]
   rw [this]; exact h
  | false => rw [hRR]; exact computed_64_4 a1 b1 ha1 hb1 hn W
 clear hRR ha1 hb1
 clear ha hb
 go_enter Tryz.func70,Tryz.ntmps70
 go_wp2_with (first
  | (go_at_call 120; ((with_reducible refine (formatOf_64 _).mono ?_); rintro e w1 ⟨rfl,hb1⟩))
  | (go_at_call 121; ((with_reducible refine (known_64 _).mono ?_); rintro e w2 ⟨rfl,hb2⟩; have hS := (Sg.new 11 52 hb1).call hb2; obtain ⟨c0,c1⟩ := id hS.1)))
 go_cut [2,3] (fun s2 s3 wx => s2 = .int .u64 a1 ∧ s3 = .int .u64 b1 ∧ Sg 11 52 w w1.heap.size wx)
 case first =>
  go_region_held3 (fun w' => w'.cell? ⟨w1.heap.size,0,none⟩ = some (.int .i64 11) ∧ w'.cell? ⟨w1.heap.size,1,none⟩ = some (.int .i64 52) ∧ Sg 11 52 w w1.heap.size w')
    (first
     | exact ⟨c0,c1,hS.drew⟩
     | (go_split_ands; exact ⟨bkeep ‹_› hb,bkeep ‹_› hb,Sg.call ‹_› hb⟩)
     | (go_split_ands; exact ⟨‹_›,‹_›,‹_›⟩))
   (first
    | (go_at_call 122; ((with_reducible refine (CA _).out.mono ?_); rintro e w' ⟨rfl,hb⟩))
    | (go_at_call 122; ((with_reducible refine (CB _).out.mono ?_); rintro e w' ⟨rfl,hb⟩)))
  all_goals
   (go_wp2_with fail)
   go_meet
   go_split_ands
   exact ⟨rfl,rfl,‹_›⟩
 case rest =>
  clear hS c0 c1 CA CB
  obtain ⟨rfl,rfl,hS⟩ := hcut
  obtain ⟨c0,c1⟩ := id hS.1
  go_wp2_with (go_at_call 134; ((with_reducible refine (CC _).out.mono ?_); rintro e w4 ⟨rfl,hb4⟩))
  go_ret2
  exact ⟨rfl,bnext hS.2.2 hb4⟩
set_option maxHeartbeats 3200000 in
theorem Bin_64_5 (a b : Nat) (ha : a < 18446744073709551616) (hb : b < 18446744073709551616) (w : World) :
  Calls Tryz.prog 70 #[.int .i64 64,.int .i64 5,.int .u64 a,.int .u64 b] w fun e w' => e = .returned (.tuple #[.int .u64 ((binW Ieee.double 9 9223372036854775808 9218868437227405312 9221120237041090560 52 (-1074) 5 (a % 18446744073709551616) (b % 18446744073709551616) : Nat) : Int),.int .i64 0]) ∧ Below w.heap.size w w' := by
 have CA := fun w => hid (cut_64 a ha w)
 have CB := fun w => hid (cut_64 b hb w)
 have ha1 : a % 18446744073709551616 < 18446744073709551616 := by omega
 have hb1 : b % 18446744073709551616 < 18446744073709551616 := by omega
 generalize a % 18446744073709551616 = a1 at *
 generalize b % 18446744073709551616 = b1 at *
 obtain ⟨RR,hRR⟩ : ∃ RR : Nat,RR = binW Ieee.double 9 9223372036854775808 9218868437227405312 9221120237041090560 52 (-1074) 5 a1 b1 := ⟨_,rfl⟩
 rw [← hRR]
 have CC : ∀ W,Hid (Calls Tryz.prog 134 #[.agg #[.int .i64 11,.int .i64 52],.int .i64 5,.int .u64 a1,.int .u64 b1] W fun r w' => r = .returned (.int .u64 (RR : Int)) ∧ Below W.heap.size W w') := fun W => by
  cases hn : nanW 9223372036854775808 9218868437227405312 a1 b1 with
  | true =>
   have h := computed_64_nan 5 a1 b1 ha1 hb1 hn W
   have : RR = 9221120237041090560 := by rw [hRR]; unfold binW; rw [if_pos ⟨by decide,hn⟩]
   rw [this]; exact h
  | false => rw [hRR]; exact computed_64_5 a1 b1 ha1 hb1 hn W
 clear hRR ha1 hb1
 clear ha hb
 go_enter Tryz.func70,Tryz.ntmps70
 go_wp2_with (first
  | (go_at_call 120; ((with_reducible refine (formatOf_64 _).mono ?_); rintro e w1 ⟨rfl,hb1⟩))
  | (go_at_call 121; ((with_reducible refine (known_64 _).mono ?_); rintro e w2 ⟨rfl,hb2⟩; have hS := (Sg.new 11 52 hb1).call hb2; obtain ⟨c0,c1⟩ := id hS.1)))
 go_cut [2,3] (fun s2 s3 wx => s2 = .int .u64 a1 ∧ s3 = .int .u64 b1 ∧ Sg 11 52 w w1.heap.size wx)
 case first =>
  go_region_held3 (fun w' => w'.cell? ⟨w1.heap.size,0,none⟩ = some (.int .i64 11) ∧ w'.cell? ⟨w1.heap.size,1,none⟩ = some (.int .i64 52) ∧ Sg 11 52 w w1.heap.size w')
    (first
     | exact ⟨c0,c1,hS.drew⟩
     | (go_split_ands; exact ⟨bkeep ‹_› hb,bkeep ‹_› hb,Sg.call ‹_› hb⟩)
     | (go_split_ands; exact ⟨‹_›,‹_›,‹_›⟩))
   (first
    | (go_at_call 122; ((with_reducible refine (CA _).out.mono ?_); rintro e w' ⟨rfl,hb⟩))
    | (go_at_call 122; ((with_reducible refine (CB _).out.mono ?_); rintro e w' ⟨rfl,hb⟩)))
  all_goals
   (go_wp2_with fail)
   go_meet
   go_split_ands
   exact ⟨rfl,rfl,‹_›⟩
 case rest =>
  clear hS c0 c1 CA CB
  obtain ⟨rfl,rfl,hS⟩ := hcut
  obtain ⟨c0,c1⟩ := id hS.1
  go_wp2_with (go_at_call 134; ((with_reducible refine (CC _).out.mono ?_); rintro e w4 ⟨rfl,hb4⟩))
  go_ret2
  exact ⟨rfl,bnext hS.2.2 hb4⟩
set_option maxHeartbeats 3200000 in
theorem Bin_64_6 (a b : Nat) (ha : a < 18446744073709551616) (hb : b < 18446744073709551616) (w : World) :
  Calls Tryz.prog 70 #[.int .i64 64,.int .i64 6,.int .u64 a,.int .u64 b] w fun e w' => e = .returned (.tuple #[.int .u64 ((binW Ieee.double 9 9223372036854775808 9218868437227405312 9221120237041090560 52 (-1074) 6 (a % 18446744073709551616) (b % 18446744073709551616) : Nat) : Int),.int .i64 0]) ∧ Below w.heap.size w w' := by
 have CA := fun w => hid (cut_64 a ha w)
 have CB := fun w => hid (cut_64 b hb w)
 have ha1 : a % 18446744073709551616 < 18446744073709551616 := by omega
 have hb1 : b % 18446744073709551616 < 18446744073709551616 := by omega
 generalize a % 18446744073709551616 = a1 at *
 generalize b % 18446744073709551616 = b1 at *
 obtain ⟨RR,hRR⟩ : ∃ RR : Nat,RR = binW Ieee.double 9 9223372036854775808 9218868437227405312 9221120237041090560 52 (-1074) 6 a1 b1 := ⟨_,rfl⟩
 rw [← hRR]
 have CC : ∀ W,Hid (Calls Tryz.prog 134 #[.agg #[.int .i64 11,.int .i64 52],.int .i64 6,.int .u64 a1,.int .u64 b1] W fun r w' => r = .returned (.int .u64 (RR : Int)) ∧ Below W.heap.size W w') := fun W => by
  cases hn : nanW 9223372036854775808 9218868437227405312 a1 b1 with
  | true =>
   have h := computed_64_nan 6 a1 b1 ha1 hb1 hn W
   have : RR = 9221120237041090560 := by rw [hRR]; unfold binW; rw [if_pos ⟨by decide,hn⟩]
   rw [this]; exact h
  | false => rw [hRR]; exact computed_64_6 a1 b1 ha1 hb1 hn W
 clear hRR ha1 hb1
 clear ha hb
 go_enter Tryz.func70,Tryz.ntmps70
 go_wp2_with (first
  | (go_at_call 120; ((with_reducible refine (formatOf_64 _).mono ?_); rintro e w1 ⟨rfl,hb1⟩))
  | (go_at_call 121; ((with_reducible refine (known_64 _).mono ?_); rintro e w2 ⟨rfl,hb2⟩; have hS := (Sg.new 11 52 hb1).call hb2; obtain ⟨c0,c1⟩ := id hS.1)))
 go_cut [2,3] (fun s2 s3 wx => s2 = .int .u64 a1 ∧ s3 = .int .u64 b1 ∧ Sg 11 52 w w1.heap.size wx)
 case first =>
  go_region_held3 (fun w' => w'.cell? ⟨w1.heap.size,0,none⟩ = some (.int .i64 11) ∧ w'.cell? ⟨w1.heap.size,1,none⟩ = some (.int .i64 52) ∧ Sg 11 52 w w1.heap.size w')
    (first
     | exact ⟨c0,c1,hS.drew⟩
     | (go_split_ands; exact ⟨bkeep ‹_› hb,bkeep ‹_› hb,Sg.call ‹_› hb⟩)
     | (go_split_ands; exact ⟨‹_›,‹_›,‹_›⟩))
   (first
    | (go_at_call 122; ((with_reducible refine (CA _).out.mono ?_); rintro e w' ⟨rfl,hb⟩))
    | (go_at_call 122; ((with_reducible refine (CB _).out.mono ?_); rintro e w' ⟨rfl,hb⟩)))
  all_goals
   (go_wp2_with fail)
   go_meet
   go_split_ands
   exact ⟨rfl,rfl,‹_›⟩
 case rest =>
  clear hS c0 c1 CA CB
  obtain ⟨rfl,rfl,hS⟩ := hcut
  obtain ⟨c0,c1⟩ := id hS.1
  go_wp2_with (go_at_call 134; ((with_reducible refine (CC _).out.mono ?_); rintro e w4 ⟨rfl,hb4⟩))
  go_ret2
  exact ⟨rfl,bnext hS.2.2 hb4⟩
set_option maxHeartbeats 3200000 in
theorem Bin_64_7 (a b : Nat) (ha : a < 18446744073709551616) (hb : b < 18446744073709551616) (w : World) :
  Calls Tryz.prog 70 #[.int .i64 64,.int .i64 7,.int .u64 a,.int .u64 b] w fun e w' => e = .returned (.tuple #[.int .u64 ((binW Ieee.double 9 9223372036854775808 9218868437227405312 9221120237041090560 52 (-1074) 7 (a % 18446744073709551616) (b % 18446744073709551616) : Nat) : Int),.int .i64 0]) ∧ Below w.heap.size w w' := by
 have CA := fun w => hid (cut_64 a ha w)
 have CB := fun w => hid (cut_64 b hb w)
 have ha1 : a % 18446744073709551616 < 18446744073709551616 := by omega
 have hb1 : b % 18446744073709551616 < 18446744073709551616 := by omega
 generalize a % 18446744073709551616 = a1 at *
 generalize b % 18446744073709551616 = b1 at *
 obtain ⟨RR,hRR⟩ : ∃ RR : Nat,RR = binW Ieee.double 9 9223372036854775808 9218868437227405312 9221120237041090560 52 (-1074) 7 a1 b1 := ⟨_,rfl⟩
 rw [← hRR]
 have SC := fun w => hid (size_64 a1 ha1 w)
 have GC := fun w => hid (sign_64 b1 hb1 w)
 unfold binW at hRR
 rw [if_neg (by simp),if_neg (by decide),if_neg (by decide),if_neg (by decide),if_neg (by decide),if_neg (by decide),if_neg (by decide),if_pos rfl] at hRR
 obtain ⟨s,hs⟩ : ∃ s : Nat,s = a1 % 9223372036854775808 := ⟨_,rfl⟩
 obtain ⟨g,hg⟩ : ∃ g : Nat,g = if 9223372036854775808 ≤ b1 then 9223372036854775808 else 0 := ⟨_,rfl⟩
 have hor : bits .or .u64 (s : Int) (g : Int) = (RR : Int) := by
  have hgb : g < 18446744073709551616 := by rw [hg]; split <;> decide
  rw [bits_or_u64_nat s g (by omega) hgb,hRR,← hs,← hg,Nat.or_comm]
  have h9 := word_or 63 s (decide (9223372036854775808 ≤ b1)) (by omega)
  rw [show (2 : Nat) ^ 63 = 9223372036854775808 by decide] at h9
  have : (if decide (9223372036854775808 ≤ b1) = true then 9223372036854775808 else 0) = g := by rw [hg]; simp
  rw [this] at h9
  rw [h9]
  have h8 : g = if decide (9223372036854775808 ≤ b1) = true then 9223372036854775808 else 0 := this.symm
  rw [h8]
  cases decide (9223372036854775808 ≤ b1) <;> simp <;> omega
 rw [← hs] at SC
 rw [← hg] at GC
 clear hRR hs hg ha1 hb1
 clear ha hb
 go_enter Tryz.func70,Tryz.ntmps70
 go_wp2_with (first
  | (go_at_call 120; ((with_reducible refine (formatOf_64 _).mono ?_); rintro e w1 ⟨rfl,hb1⟩))
  | (go_at_call 121; ((with_reducible refine (known_64 _).mono ?_); rintro e w2 ⟨rfl,hb2⟩; have hS := (Sg.new 11 52 hb1).call hb2; obtain ⟨c0,c1⟩ := id hS.1)))
 go_cut [2,3] (fun s2 s3 wx => s2 = .int .u64 a1 ∧ s3 = .int .u64 b1 ∧ Sg 11 52 w w1.heap.size wx)
 case first =>
  go_region_held3 (fun w' => w'.cell? ⟨w1.heap.size,0,none⟩ = some (.int .i64 11) ∧ w'.cell? ⟨w1.heap.size,1,none⟩ = some (.int .i64 52) ∧ Sg 11 52 w w1.heap.size w')
    (first
     | exact ⟨c0,c1,hS.drew⟩
     | (go_split_ands; exact ⟨bkeep ‹_› hb,bkeep ‹_› hb,Sg.call ‹_› hb⟩)
     | (go_split_ands; exact ⟨‹_›,‹_›,‹_›⟩))
   (first
    | (go_at_call 122; ((with_reducible refine (CA _).out.mono ?_); rintro e w' ⟨rfl,hb⟩))
    | (go_at_call 122; ((with_reducible refine (CB _).out.mono ?_); rintro e w' ⟨rfl,hb⟩)))
  all_goals
   (go_wp2_with fail)
   go_meet
   go_split_ands
   exact ⟨rfl,rfl,‹_›⟩
 case rest =>
  clear hS c0 c1 CA CB
  obtain ⟨rfl,rfl,hS⟩ := hcut
  obtain ⟨c0,c1⟩ := id hS.1
  go_upto_region 14 with fail
  go_region_held3 (fun w' => w'.cell? ⟨w1.heap.size,0,none⟩ = some (.int .i64 11) ∧ w'.cell? ⟨w1.heap.size,1,none⟩ = some (.int .i64 52) ∧ Sg 11 52 w w1.heap.size w')
   (first
    | exact ⟨c0,c1,hS.drew⟩
    | (go_split_ands; exact ⟨bkeep ‹_› hb,bkeep ‹_› hb,Sg.call ‹_› hb⟩)
    | (go_split_ands; exact ⟨‹_›,‹_›,‹_›⟩))
   (first
    | (go_at_call 130; ((with_reducible refine (SC _).out.mono ?_); rintro e w' ⟨rfl,hb⟩))
    | (go_at_call 135; ((with_reducible refine (GC _).out.mono ?_); rintro e w' ⟨rfl,hb⟩)))
  all_goals
   go_wp2
   go_ret2
   go_split_ands
   exact ⟨rfl,(‹Sg 11 52 w w1.heap.size _›).2.2⟩
end Go.Proofs.YtbbmbhcbncenaaaGreatDoor.Fl
namespace Go.Proofs.YtbbmbhcbncenaaaGreatDoor.Fl
open Ieee
def cutUp (way : Toward) (neg : Bool) (n d : Nat) : Bool :=
 match way with
 | .even => decide (2 ^ d < 2 * (n % 2 ^ d)) || (2 ^ d == 2 * (n % 2 ^ d) && n / 2 ^ d % 2 == 1)
 | .down => neg && n % 2 ^ d != 0
 | .up => !neg && n % 2 ^ d != 0
 | .zero => false
theorem cut_plain (way : Toward) (neg : Bool) (n d : Nat) : way.cut neg n d = n / 2 ^ d + (cutUp way neg n d).toNat := by
 by_cases h : d ≤ n.log2 + 2
 ·unfold Toward.cut cutUp
  simp only [Nat.one_shiftLeft]
  rw [Nat.min_eq_left h]
  cases way <;> rfl
 ·have hn := @Nat.lt_log2_self n
  have e : (2 : Nat) ^ (n.log2 + 2) = 2 * 2 ^ (n.log2 + 1) := by rw [show n.log2 + 2 = (n.log2 + 1) + 1 by omega,Nat.pow_succ]; omega
  have hle : (2 : Nat) ^ (n.log2 + 2) ≤ 2 ^ d := Nat.pow_le_pow_right (by omega) (by omega)
  have d1 : n / 2 ^ d = 0 := Nat.div_eq_of_lt (by omega)
  have m1 : n % 2 ^ d = n := Nat.mod_eq_of_lt (by omega)
  have d2 : n / 2 ^ (n.log2 + 2) = 0 := Nat.div_eq_of_lt (by omega)
  have m2 : n % 2 ^ (n.log2 + 2) = n := Nat.mod_eq_of_lt (by omega)
  unfold Toward.cut cutUp
  simp only [Nat.one_shiftLeft]
  rw [Nat.min_eq_right (by omega),d1,m1,d2,m2]
  cases way
  ·have e1 : decide (2 ^ d < 2 * n) = false := by simp; omega
   have e2 : (2 ^ d == 2 * n) = false := by simp; omega
   have e3 : decide (2 ^ (n.log2 + 2) < 2 * n) = false := by simp; omega
   have e4 : (2 ^ (n.log2 + 2) == 2 * n) = false := by simp; omega
   simp only [e1,e2,e3,e4]
  ·rfl
  ·rfl
  ·rfl
theorem cutUp_far (way : Toward) (neg : Bool) (n d : Nat) (hn : n < 4611686018427387904) (hd : 63 ≤ d) : n / 2 ^ d = n / 2 ^ 63 ∧ cutUp way neg n d = cutUp way neg n 63 := by
 have hle : (2 : Nat) ^ 63 ≤ 2 ^ d := Nat.pow_le_pow_right (by omega) hd
 have h63 : (2 : Nat) ^ 63 = 9223372036854775808 := by decide
 have d1 : n / 2 ^ d = 0 := Nat.div_eq_of_lt (by omega)
 have m1 : n % 2 ^ d = n := Nat.mod_eq_of_lt (by omega)
 have d2 : n / 2 ^ 63 = 0 := Nat.div_eq_of_lt (by omega)
 have m2 : n % 2 ^ 63 = n := Nat.mod_eq_of_lt (by omega)
 refine ⟨by rw [d1,d2],?_⟩
 unfold cutUp
 rw [d1,m1,d2,m2]
 cases way
 ·have e1 : decide (2 ^ d < 2 * n) = false := by simp; omega
  have e2 : (2 ^ d == 2 * n) = false := by simp; omega
  have e3 : decide (2 ^ 63 < 2 * n) = false := by simp; omega
  have e4 : (2 ^ 63 == 2 * n) = false := by simp; omega
  simp only [e1,e2,e3,e4]
 ·rfl
 ·rfl
 ·rfl
def wayOf (op : Nat) : Toward := if op = 4 then .up else if op = 5 then .down else if op = 6 then .zero else .even
section
variable {f : Format} {SB INF P : Nat} {low : Int} (F : Fmt f SB INF P low) {a : Nat}
include F
theorem rungOf_parts {s : Nat} (hs : s < INF) : rungOf f (pm P s) (pe P low s) = s := by
 have hp : 0 < 2 ^ P := Nat.two_pow_pos P
 have hi := F.inf
 have hdm := Nat.div_add_mod s (2 ^ P)
 have hml := Nat.mod_lt s hp
 by_cases hq : s / 2 ^ P = 0
 ·have e1 : pm P s = s := by unfold pm; rw [if_pos hq]
  have e2 : pe P low s = low := by unfold pe; rw [if_pos hq]
  rw [e1,e2]
  by_cases h0 : s = 0
  ·subst h0; rfl
  ·have hsp : s < 2 ^ P := by
    rcases Nat.lt_or_ge s (2 ^ P) with h | h
    ·exact h
    ·have := Nat.div_pos h hp; omega
   have hlog : s.log2 < P := log2_lt_of h0 hsp
   have hL : lastP f s low = low := by
    unfold lastP; rw [F.fr,F.lp]; omega
   unfold rungOf
   rw [if_neg h0,hL,F.lp,F.inf]
   unfold rneI
   rw [show low - low = 0 by omega,if_pos (by omega)]
   simp [rne_zero]
   omega
 ·have e1 : pm P s = s % 2 ^ P + 2 ^ P := by unfold pm; rw [if_neg hq]
  have e2 := pe_eq P low s
  have hne : pm P s ≠ 0 := by omega
  have hlog : (pm P s).log2 = P := by
   rw [Nat.log2_eq_iff hne,e1]
   have : (2 : Nat) ^ (P + 1) = 2 * 2 ^ P := by rw [Nat.pow_succ]; omega
   omega
  have hL : lastP f (pm P s) (pe P low s) = pe P low s := by
   unfold lastP; rw [F.fr,F.lp,hlog]; omega
  unfold rungOf
  rw [if_neg hne,hL,F.lp,F.inf,F.fr]
  unfold rneI
  rw [show pe P low s - pe P low s = 0 by omega,if_pos (by omega)]
  simp only [Int.toNat_zero,rne_zero]
  rw [show (pe P low s - low).toNat = s / 2 ^ P - 1 by rw [e2]; generalize s / 2 ^ P = q; omega,e1]
  have : (s / 2 ^ P - 1) * 2 ^ P + (s % 2 ^ P + 2 ^ P) = s := by
   obtain ⟨q,hqe⟩ : ∃ q,s / 2 ^ P = q + 1 := ⟨s / 2 ^ P - 1,by generalize s / 2 ^ P = z at *; omega⟩
   rw [hqe] at hdm ⊢
   rw [Nat.mul_add,Nat.mul_one,Nat.mul_comm] at hdm
   rw [show q + 1 - 1 = q by omega]
   omega
  rw [this]
  omega
theorem word_sz (ha : a < 2 * SB) : f.word (decide (SB ≤ a)) (a % SB) = a := by
 unfold Format.word
 rw [F.sb]
 by_cases h : SB ≤ a
 ·have : a % SB = a - SB := by rw [Nat.mod_eq_sub_mod h,Nat.mod_eq_of_lt (by omega)]
  simp [h,this]
 ·simp [h,Nat.mod_eq_of_lt (show a < SB by omega)]
theorem read_12 (ha : a < 2 * SB) (h : kindOf INF (a % SB) = 1 ∨ kindOf INF (a % SB) = 2) : f.read a = .number (decide (SB ≤ a)) (pm P (a % SB)) (pe P low (a % SB)) ∧ a % SB < INF := by
 have hfin : a % SB < INF := by
  rcases h with h | h
  ·rw [kind1.1 h]; exact F.inf0
  ·exact (kind2.1 h).2
 exact ⟨read_fin F.sb F.fr F.lp ha (by rw [F.inf]; exact hfin),hfin⟩
theorem whole_inf (ha : a < 2 * SB) (h : kindOf INF (a % SB) = 3) (way : Toward) : f.write ((f.read a).integral way) = a := by
 rw [rk3 F ha h]
 show f.word _ f.infRung = a
 have h3 := (kind3 F.inf0).1 h
 have := word_sz F ha
 rw [h3] at this
 rw [F.inf]; exact this
theorem whole_big (ha : a < 2 * SB) (h : kindOf INF (a % SB) = 1 ∨ kindOf INF (a % SB) = 2) (he : 0 ≤ pe P low (a % SB)) (way : Toward) : f.write ((f.read a).integral way) = a := by
 have h1 := read_12 F ha h
 rw [h1.1]
 simp only [Datum.integral,Format.write]
 rw [nearest_eq,cut_plain,show (-pe P low (a % SB)).toNat = 0 by omega,Nat.shiftLeft_eq]
 have hup : cutUp way (decide (SB ≤ a)) (pm P (a % SB) * 2 ^ (pe P low (a % SB)).toNat) 0 = false := by
  unfold cutUp; cases way <;> simp [Nat.mod_one]
 rw [hup,Nat.pow_zero,Nat.div_one]
 have := rungOf_scale f (pm P (a % SB)) (pe P low (a % SB)) (pe P low (a % SB)).toNat
 rw [show pe P low (a % SB) - ((pe P low (a % SB)).toNat : Int) = 0 by omega] at this
 show f.word _ (rungOf f (pm P (a % SB) * 2 ^ (pe P low (a % SB)).toNat + 0) 0) = a
 rw [Nat.add_zero,this,rungOf_parts F h1.2,word_sz F ha]
theorem whole_small (ha : a < 2 * SB) (h : kindOf INF (a % SB) = 1 ∨ kindOf INF (a % SB) = 2) {K pl : Nat} (hK : pe P low (a % SB) = -(K : Int)) (hpl : pl = min K 63) (way : Toward) :
  f.write ((f.read a).integral way) = f.word (decide (SB ≤ a)) (rungR f (pm P (a % SB) / 2 ^ pl + (cutUp way (decide (SB ≤ a)) (pm P (a % SB)) pl).toNat) 0 false) := by
 have h1 := read_12 F ha h
 rw [h1.1,rungR_false]
 simp only [Datum.integral,Format.write]
 rw [nearest_eq,cut_plain,show (-pe P low (a % SB)).toNat = K by omega,show (pe P low (a % SB)).toNat = 0 by omega]
 simp only [Nat.shiftLeft_zero]
 have hm : pm P (a % SB) < 4611686018427387904 := by
  have h2 := pm_lt P (a % SB)
  have h3 : (2 : Nat) ^ (P + 1) ≤ 2 ^ 53 := Nat.pow_le_pow_right (by decide) (by have := F.p52; omega)
  have h4 : (2 : Nat) ^ 53 = 9007199254740992 := by decide
  omega
 by_cases hc : K ≤ 63
 ·rw [show pl = K by omega]
 ·have hp : pl = 63 := by omega
  have := cutUp_far way (decide (SB ≤ a)) _ K hm (by omega)
  rw [hp,this.1,this.2]
end
end Go.Proofs.YtbbmbhcbncenaaaGreatDoor.Fl
