/-
  FFBin64: merged, what the laws do not reach left out (each text says what it holds where it lies in wip). No condition.
-/
import Derived.Test.YtlhakbkdlgejpaaGreatDoorX16
import Derived.Test.YtlhakbkdlgejpaaGreatDoorX17
import Derived.Test.YtlhakbkdlgejpaaGreatDoorX18
import Derived.Test.YtlhakbkdlgejpaaGreatDoorX01
set_option linter.unusedSimpArgs false
set_option linter.unusedVariables false
set_option maxRecDepth 100000
namespace Go.Proofs.YtlhakbkdlgejpaaGreatDoor.Fl
open Go.RowKit
theorem quo_64 (a b:Nat) (ha:a < 18446744073709551616) (hb:b < 18446744073709551616) (hna:a % 9223372036854775808≤9218868437227405312) (hnb:b % 9223372036854775808≤9218868437227405312) (w:World) :
  Calls Tryz.prog 248 #[.agg #[.int .i64 11,.int .i64 52],.int .u64 a,.int .u64 b] w fun r w' => r=.returned (.int .u64 ((((Ieee.double).div a b).getD 9221120237041090560:Nat):Int))∧Below w.heap.size w w':=by
 refine quo_all hna hnb _ fun i j hi hj h1 h2 => ?_
 rcases hi with rfl | rfl | rfl <;> rcases hj with rfl | rfl | rfl
 ·exact quo_64_eq a b 1 1 ha hb h1 h2 ⟨rfl,.inl rfl⟩ w
 ·exact quo_64_zero a b 1 2 ha hb h1 h2 (by decide) w
 ·exact quo_64_zero a b 1 3 ha hb h1 h2 (by decide) w
 ·exact quo_64_inf a b 2 1 ha hb h1 h2 (by decide) w
 ·exact quo_64_22 a b ha hb h1 h2 w
 ·exact quo_64_zero a b 2 3 ha hb h1 h2 (by decide) w
 ·exact quo_64_inf a b 3 1 ha hb h1 h2 (by decide) w
 ·exact quo_64_inf a b 3 2 ha hb h1 h2 (by decide) w
 ·exact quo_64_eq a b 3 3 ha hb h1 h2 ⟨rfl,.inr rfl⟩ w
theorem computed_64_nan (op:Int) (a b:Nat) (ha:a < 18446744073709551616) (hb:b < 18446744073709551616) (hn:nanW 9223372036854775808 9218868437227405312 a b=true) (w:World) :
  Calls Tryz.prog 188 #[.agg #[.int .i64 11,.int .i64 52],.int .i64 op,.int .u64 a,.int .u64 b] w fun r w' => r=.returned (.int .u64 9221120237041090560)∧Below w.heap.size w w':=by
 have HN:=fun w => hid (anyNaN_64 a b ha hb w)
 rw [show decide (9218868437227405312 < a % 9223372036854775808 ∨ 9218868437227405312 < b % 9223372036854775808)=true from hn] at HN
 have hS:=Sx.new 11 52 w
 obtain ⟨c0,c1⟩:=id hS.1
 clear ha hb hn
 go_enter Tryz.func188,Tryz.ntmps188
 go_wp2_with (first
  | (go_at_call 186;((with_reducible refine (HN _).out.mono ?_);rintro e w1 ⟨rfl,hb⟩;replace hS:=hS.call hb;have c0:=hS.1.1;have c1:=hS.1.2))
  | (go_at_call 242;((with_reducible refine (canonical_64 _).mono ?_);rintro e w1 ⟨rfl,hb⟩;replace hS:=hS.call hb)))
 go_ret
 exact ⟨rfl,hS.2⟩
set_option maxHeartbeats 3200000 in
theorem computed_64_1 (a b:Nat) (ha:a < 18446744073709551616) (hb:b < 18446744073709551616) (hn:nanW 9223372036854775808 9218868437227405312 a b=false) (w:World) :
  Calls Tryz.prog 188 #[.agg #[.int .i64 11,.int .i64 52],.int .i64 1,.int .u64 a,.int .u64 b] w fun r w' => r=.returned (.int .u64 ((binW Ieee.double 9 9223372036854775808 9218868437227405312 9221120237041090560 52 (-1074) 1 a b:Nat):Int))∧Below w.heap.size w w':=by
 have HN:=fun w => hid (anyNaN_64 a b ha hb w)
 rw [show decide (9218868437227405312 < a % 9223372036854775808 ∨ 9218868437227405312 < b % 9223372036854775808)=false from hn] at HN
 have hn2:a % 9223372036854775808≤9218868437227405312∧b % 9223372036854775808≤9218868437227405312:=by unfold nanW at hn;simp at hn;omega
 have RA:=fun w => hid (rank_64 a ha w)
 have RB:=fun w => hid (rank_64 b hb w)
 obtain ⟨RR,hRR⟩:∃ RR:Nat,RR=binW Ieee.double 9 9223372036854775808 9218868437227405312 9221120237041090560 52 (-1074) 1 a b:=⟨_,rfl⟩
 rw [← hRR]
 unfold binW at hRR
 rw [if_neg (by rw [hn];simp)] at hRR
 rw [if_pos rfl] at hRR
 have SC:=fun w => hid (sum_64 a b ha hb hn2.1 hn2.2 w)
 rw [← hRR] at SC
 obtain ⟨x,hx⟩:∃ x:Int,x=rankOf 9223372036854775808 a:=⟨_,rfl⟩
 obtain ⟨y,hy⟩:∃ y:Int,y=rankOf 9223372036854775808 b:=⟨_,rfl⟩
 rw [← hx] at RA
 rw [← hy] at RB
 clear hRR hx hy
 have hS:=Sx.new 11 52 w
 obtain ⟨c0,c1⟩:=id hS.1
 clear ha hb hn hn2
 go_enter Tryz.func188,Tryz.ntmps188
 go_upto_region 3 with (first
  | (go_at_call 186;((with_reducible refine (HN _).out.mono ?_);rintro e w1 ⟨rfl,hb⟩;replace hS:=hS.call hb;have c0:=hS.1.1;have c1:=hS.1.2)))
 go_cut [9,10] (fun s2 s3 wx => s2=.int .i64 x∧s3=.int .i64 y∧Sx 11 52 w wx)
 case first =>
  clear hb
  go_region_held3 (fun w' => w'.cell? ⟨w.heap.size,0,none⟩=some (.int .i64 11)∧w'.cell? ⟨w.heap.size,1,none⟩=some (.int .i64 52)∧Sx 11 52 w w')
   (first
    | exact ⟨c0,c1,hS.drew⟩
    | (go_split_ands;exact ⟨bkeep ‹_› hb,bkeep ‹_› hb,Sx.call ‹_› hb⟩)
    | (go_split_ands;exact ⟨‹_›,‹_›,‹_›⟩))
   (first
    | (go_at_call 187;((with_reducible refine (RA _).out.mono ?_);rintro e w' ⟨rfl,hb⟩))
    | (go_at_call 187;((with_reducible refine (RB _).out.mono ?_);rintro e w' ⟨rfl,hb⟩)))
  all_goals
   (go_wp2_with fail)
   go_meet
   go_split_ands
   exact ⟨rfl,rfl,‹_›⟩
 case rest =>
  clear hS c0 c1 hb
  obtain ⟨rfl,rfl,hS⟩:=hcut
  obtain ⟨c0,c1⟩:=id hS.1
  clear RA RB HN
  go_wp2_with (go_at_call 246;((with_reducible refine (SC _).out.mono ?_);rintro e w1 ⟨rfl,hb⟩;replace hS:=hS.call hb))
  go_ret
  exact ⟨rfl,hS.2⟩
set_option maxHeartbeats 3200000 in
theorem computed_64_2 (a b:Nat) (ha:a < 18446744073709551616) (hb:b < 18446744073709551616) (hn:nanW 9223372036854775808 9218868437227405312 a b=false) (w:World) :
  Calls Tryz.prog 188 #[.agg #[.int .i64 11,.int .i64 52],.int .i64 2,.int .u64 a,.int .u64 b] w fun r w' => r=.returned (.int .u64 ((binW Ieee.double 9 9223372036854775808 9218868437227405312 9221120237041090560 52 (-1074) 2 a b:Nat):Int))∧Below w.heap.size w w':=by
 have HN:=fun w => hid (anyNaN_64 a b ha hb w)
 rw [show decide (9218868437227405312 < a % 9223372036854775808 ∨ 9218868437227405312 < b % 9223372036854775808)=false from hn] at HN
 have hn2:a % 9223372036854775808≤9218868437227405312∧b % 9223372036854775808≤9218868437227405312:=by unfold nanW at hn;simp at hn;omega
 have RA:=fun w => hid (rank_64 a ha w)
 have RB:=fun w => hid (rank_64 b hb w)
 obtain ⟨RR,hRR⟩:∃ RR:Nat,RR=binW Ieee.double 9 9223372036854775808 9218868437227405312 9221120237041090560 52 (-1074) 2 a b:=⟨_,rfl⟩
 rw [← hRR]
 unfold binW at hRR
 rw [if_neg (by rw [hn];simp)] at hRR
 rw [if_neg (by decide),if_pos rfl] at hRR
 have hob:oppN 9223372036854775808 b < 18446744073709551616∧oppN 9223372036854775808 b % 9223372036854775808=b % 9223372036854775808:=by unfold oppN;split <;> omega
 have OC:=fun w => hid (opposite_64 b hb w)
 have SC:=fun w => hid (sum_64 a (oppN 9223372036854775808 b) ha hob.1 hn2.1 (by rw [hob.2];exact hn2.2) w)
 rw [← hRR] at SC
 obtain ⟨o,ho⟩:∃ o:Nat,o=oppN 9223372036854775808 b:=⟨_,rfl⟩
 have OC2:∀ W,Hid (Calls Tryz.prog 183 #[.agg #[.int .i64 11,.int .i64 52],.int .u64 b] W fun e w' => e=.returned (.int .u64 (o:Int))∧Below W.heap.size W w'):=fun W => by rw [ho];exact OC W
 rw [← ho] at SC
 clear ho hob OC
 obtain ⟨x,hx⟩:∃ x:Int,x=rankOf 9223372036854775808 a:=⟨_,rfl⟩
 obtain ⟨y,hy⟩:∃ y:Int,y=rankOf 9223372036854775808 b:=⟨_,rfl⟩
 rw [← hx] at RA
 rw [← hy] at RB
 clear hRR hx hy
 have hS:=Sx.new 11 52 w
 obtain ⟨c0,c1⟩:=id hS.1
 clear ha hb hn hn2
 go_enter Tryz.func188,Tryz.ntmps188
 go_upto_region 3 with (first
  | (go_at_call 186;((with_reducible refine (HN _).out.mono ?_);rintro e w1 ⟨rfl,hb⟩;replace hS:=hS.call hb;have c0:=hS.1.1;have c1:=hS.1.2)))
 go_cut [9,10] (fun s2 s3 wx => s2=.int .i64 x∧s3=.int .i64 y∧Sx 11 52 w wx)
 case first =>
  clear hb
  go_region_held3 (fun w' => w'.cell? ⟨w.heap.size,0,none⟩=some (.int .i64 11)∧w'.cell? ⟨w.heap.size,1,none⟩=some (.int .i64 52)∧Sx 11 52 w w')
   (first
    | exact ⟨c0,c1,hS.drew⟩
    | (go_split_ands;exact ⟨bkeep ‹_› hb,bkeep ‹_› hb,Sx.call ‹_› hb⟩)
    | (go_split_ands;exact ⟨‹_›,‹_›,‹_›⟩))
   (first
    | (go_at_call 187;((with_reducible refine (RA _).out.mono ?_);rintro e w' ⟨rfl,hb⟩))
    | (go_at_call 187;((with_reducible refine (RB _).out.mono ?_);rintro e w' ⟨rfl,hb⟩)))
  all_goals
   (go_wp2_with fail)
   go_meet
   go_split_ands
   exact ⟨rfl,rfl,‹_›⟩
 case rest =>
  clear hS c0 c1 hb
  obtain ⟨rfl,rfl,hS⟩:=hcut
  obtain ⟨c0,c1⟩:=id hS.1
  clear RA RB HN
  go_wp2_with (first
   | (go_at_call 183;((with_reducible refine (OC2 _).out.mono ?_);rintro e w1 ⟨rfl,hb⟩;replace hS:=hS.call hb;have c0:=hS.1.1;have c1:=hS.1.2))
   | (go_at_call 246;((with_reducible refine (SC _).out.mono ?_);rintro e w1 ⟨rfl,hb⟩;replace hS:=hS.call hb)))
  go_ret
  exact ⟨rfl,hS.2⟩
set_option maxHeartbeats 3200000 in
theorem computed_64_3 (a b:Nat) (ha:a < 18446744073709551616) (hb:b < 18446744073709551616) (hn:nanW 9223372036854775808 9218868437227405312 a b=false) (w:World) :
  Calls Tryz.prog 188 #[.agg #[.int .i64 11,.int .i64 52],.int .i64 3,.int .u64 a,.int .u64 b] w fun r w' => r=.returned (.int .u64 ((binW Ieee.double 9 9223372036854775808 9218868437227405312 9221120237041090560 52 (-1074) 3 a b:Nat):Int))∧Below w.heap.size w w':=by
 have HN:=fun w => hid (anyNaN_64 a b ha hb w)
 rw [show decide (9218868437227405312 < a % 9223372036854775808 ∨ 9218868437227405312 < b % 9223372036854775808)=false from hn] at HN
 have hn2:a % 9223372036854775808≤9218868437227405312∧b % 9223372036854775808≤9218868437227405312:=by unfold nanW at hn;simp at hn;omega
 have RA:=fun w => hid (rank_64 a ha w)
 have RB:=fun w => hid (rank_64 b hb w)
 obtain ⟨RR,hRR⟩:∃ RR:Nat,RR=binW Ieee.double 9 9223372036854775808 9218868437227405312 9221120237041090560 52 (-1074) 3 a b:=⟨_,rfl⟩
 rw [← hRR]
 unfold binW at hRR
 rw [if_neg (by rw [hn];simp)] at hRR
 rw [if_neg (by decide),if_neg (by decide),if_pos rfl] at hRR
 have SC:=fun w => hid (prod_64 a b ha hb hn2.1 hn2.2 w)
 rw [← hRR] at SC
 obtain ⟨x,hx⟩:∃ x:Int,x=rankOf 9223372036854775808 a:=⟨_,rfl⟩
 obtain ⟨y,hy⟩:∃ y:Int,y=rankOf 9223372036854775808 b:=⟨_,rfl⟩
 rw [← hx] at RA
 rw [← hy] at RB
 clear hRR hx hy
 have hS:=Sx.new 11 52 w
 obtain ⟨c0,c1⟩:=id hS.1
 clear ha hb hn hn2
 go_enter Tryz.func188,Tryz.ntmps188
 go_upto_region 3 with (first
  | (go_at_call 186;((with_reducible refine (HN _).out.mono ?_);rintro e w1 ⟨rfl,hb⟩;replace hS:=hS.call hb;have c0:=hS.1.1;have c1:=hS.1.2)))
 go_cut [9,10] (fun s2 s3 wx => s2=.int .i64 x∧s3=.int .i64 y∧Sx 11 52 w wx)
 case first =>
  clear hb
  go_region_held3 (fun w' => w'.cell? ⟨w.heap.size,0,none⟩=some (.int .i64 11)∧w'.cell? ⟨w.heap.size,1,none⟩=some (.int .i64 52)∧Sx 11 52 w w')
   (first
    | exact ⟨c0,c1,hS.drew⟩
    | (go_split_ands;exact ⟨bkeep ‹_› hb,bkeep ‹_› hb,Sx.call ‹_› hb⟩)
    | (go_split_ands;exact ⟨‹_›,‹_›,‹_›⟩))
   (first
    | (go_at_call 187;((with_reducible refine (RA _).out.mono ?_);rintro e w' ⟨rfl,hb⟩))
    | (go_at_call 187;((with_reducible refine (RB _).out.mono ?_);rintro e w' ⟨rfl,hb⟩)))
  all_goals
   (go_wp2_with fail)
   go_meet
   go_split_ands
   exact ⟨rfl,rfl,‹_›⟩
 case rest =>
  clear hS c0 c1 hb
  obtain ⟨rfl,rfl,hS⟩:=hcut
  obtain ⟨c0,c1⟩:=id hS.1
  clear RA RB HN
  go_wp2_with (go_at_call 247;((with_reducible refine (SC _).out.mono ?_);rintro e w1 ⟨rfl,hb⟩;replace hS:=hS.call hb))
  go_ret
  exact ⟨rfl,hS.2⟩
set_option maxHeartbeats 3200000 in
theorem computed_64_4 (a b:Nat) (ha:a < 18446744073709551616) (hb:b < 18446744073709551616) (hn:nanW 9223372036854775808 9218868437227405312 a b=false) (w:World) :
  Calls Tryz.prog 188 #[.agg #[.int .i64 11,.int .i64 52],.int .i64 4,.int .u64 a,.int .u64 b] w fun r w' => r=.returned (.int .u64 ((binW Ieee.double 9 9223372036854775808 9218868437227405312 9221120237041090560 52 (-1074) 4 a b:Nat):Int))∧Below w.heap.size w w':=by
 have HN:=fun w => hid (anyNaN_64 a b ha hb w)
 rw [show decide (9218868437227405312 < a % 9223372036854775808 ∨ 9218868437227405312 < b % 9223372036854775808)=false from hn] at HN
 have hn2:a % 9223372036854775808≤9218868437227405312∧b % 9223372036854775808≤9218868437227405312:=by unfold nanW at hn;simp at hn;omega
 have RA:=fun w => hid (rank_64 a ha w)
 have RB:=fun w => hid (rank_64 b hb w)
 obtain ⟨RR,hRR⟩:∃ RR:Nat,RR=binW Ieee.double 9 9223372036854775808 9218868437227405312 9221120237041090560 52 (-1074) 4 a b:=⟨_,rfl⟩
 rw [← hRR]
 unfold binW at hRR
 rw [if_neg (by rw [hn];simp)] at hRR
 rw [if_neg (by decide),if_neg (by decide),if_neg (by decide),if_pos rfl] at hRR
 have SC:=fun w => hid (quo_64 a b ha hb hn2.1 hn2.2 w)
 rw [← hRR] at SC
 obtain ⟨x,hx⟩:∃ x:Int,x=rankOf 9223372036854775808 a:=⟨_,rfl⟩
 obtain ⟨y,hy⟩:∃ y:Int,y=rankOf 9223372036854775808 b:=⟨_,rfl⟩
 rw [← hx] at RA
 rw [← hy] at RB
 clear hRR hx hy
 have hS:=Sx.new 11 52 w
 obtain ⟨c0,c1⟩:=id hS.1
 clear ha hb hn hn2
 go_enter Tryz.func188,Tryz.ntmps188
 go_upto_region 3 with (first
  | (go_at_call 186;((with_reducible refine (HN _).out.mono ?_);rintro e w1 ⟨rfl,hb⟩;replace hS:=hS.call hb;have c0:=hS.1.1;have c1:=hS.1.2)))
 go_cut [9,10] (fun s2 s3 wx => s2=.int .i64 x∧s3=.int .i64 y∧Sx 11 52 w wx)
 case first =>
  clear hb
  go_region_held3 (fun w' => w'.cell? ⟨w.heap.size,0,none⟩=some (.int .i64 11)∧w'.cell? ⟨w.heap.size,1,none⟩=some (.int .i64 52)∧Sx 11 52 w w')
   (first
    | exact ⟨c0,c1,hS.drew⟩
    | (go_split_ands;exact ⟨bkeep ‹_› hb,bkeep ‹_› hb,Sx.call ‹_› hb⟩)
    | (go_split_ands;exact ⟨‹_›,‹_›,‹_›⟩))
   (first
    | (go_at_call 187;((with_reducible refine (RA _).out.mono ?_);rintro e w' ⟨rfl,hb⟩))
    | (go_at_call 187;((with_reducible refine (RB _).out.mono ?_);rintro e w' ⟨rfl,hb⟩)))
  all_goals
   (go_wp2_with fail)
   go_meet
   go_split_ands
   exact ⟨rfl,rfl,‹_›⟩
 case rest =>
  clear hS c0 c1 hb
  obtain ⟨rfl,rfl,hS⟩:=hcut
  obtain ⟨c0,c1⟩:=id hS.1
  clear RA RB HN
  go_wp2_with (go_at_call 248;((with_reducible refine (SC _).out.mono ?_);rintro e w1 ⟨rfl,hb⟩;replace hS:=hS.call hb))
  go_ret
  exact ⟨rfl,hS.2⟩
set_option maxHeartbeats 3200000 in
theorem computed_64_5 (a b:Nat) (ha:a < 18446744073709551616) (hb:b < 18446744073709551616) (hn:nanW 9223372036854775808 9218868437227405312 a b=false) (w:World) :
  Calls Tryz.prog 188 #[.agg #[.int .i64 11,.int .i64 52],.int .i64 5,.int .u64 a,.int .u64 b] w fun r w' => r=.returned (.int .u64 ((binW Ieee.double 9 9223372036854775808 9218868437227405312 9221120237041090560 52 (-1074) 5 a b:Nat):Int))∧Below w.heap.size w w':=by
 have HN:=fun w => hid (anyNaN_64 a b ha hb w)
 rw [show decide (9218868437227405312 < a % 9223372036854775808 ∨ 9218868437227405312 < b % 9223372036854775808)=false from hn] at HN
 have hn2:a % 9223372036854775808≤9218868437227405312∧b % 9223372036854775808≤9218868437227405312:=by unfold nanW at hn;simp at hn;omega
 have RA:=fun w => hid (rank_64 a ha w)
 have RB:=fun w => hid (rank_64 b hb w)
 obtain ⟨RR,hRR⟩:∃ RR:Nat,RR=binW Ieee.double 9 9223372036854775808 9218868437227405312 9221120237041090560 52 (-1074) 5 a b:=⟨_,rfl⟩
 rw [← hRR]
 unfold binW at hRR
 rw [if_neg (by rw [hn];simp)] at hRR
 rw [if_neg (by decide),if_neg (by decide),if_neg (by decide),if_neg (by decide),if_pos rfl] at hRR
 have hor:=bits_or_u64_nat a b (by omega) (by omega)
 obtain ⟨x,hx⟩:∃ x:Int,x=rankOf 9223372036854775808 a:=⟨_,rfl⟩
 obtain ⟨y,hy⟩:∃ y:Int,y=rankOf 9223372036854775808 b:=⟨_,rfl⟩
 rw [← hx] at RA
 rw [← hy] at RB
 rw [← hx,← hy] at hRR
 obtain ⟨ab,hab⟩:∃ ab:Nat,ab=a ||| b:=⟨_,rfl⟩
 rw [← hab] at hor hRR
 have HRR:=hid hRR
 clear hRR hx hy hab
 have hS:=Sx.new 11 52 w
 obtain ⟨c0,c1⟩:=id hS.1
 clear ha hb hn hn2
 go_enter Tryz.func188,Tryz.ntmps188
 go_upto_region 3 with (first
  | (go_at_call 186;((with_reducible refine (HN _).out.mono ?_);rintro e w1 ⟨rfl,hb⟩;replace hS:=hS.call hb;have c0:=hS.1.1;have c1:=hS.1.2)))
 go_cut [9,10] (fun s2 s3 wx => s2=.int .i64 x∧s3=.int .i64 y∧Sx 11 52 w wx)
 case first =>
  clear hb
  go_region_held3 (fun w' => w'.cell? ⟨w.heap.size,0,none⟩=some (.int .i64 11)∧w'.cell? ⟨w.heap.size,1,none⟩=some (.int .i64 52)∧Sx 11 52 w w')
   (first
    | exact ⟨c0,c1,hS.drew⟩
    | (go_split_ands;exact ⟨bkeep ‹_› hb,bkeep ‹_› hb,Sx.call ‹_› hb⟩)
    | (go_split_ands;exact ⟨‹_›,‹_›,‹_›⟩))
   (first
    | (go_at_call 187;((with_reducible refine (RA _).out.mono ?_);rintro e w' ⟨rfl,hb⟩))
    | (go_at_call 187;((with_reducible refine (RB _).out.mono ?_);rintro e w' ⟨rfl,hb⟩)))
  all_goals
   (go_wp2_with fail)
   go_meet
   go_split_ands
   exact ⟨rfl,rfl,‹_›⟩
 case rest =>
  clear hS c0 c1 hb
  obtain ⟨rfl,rfl,hS⟩:=hcut
  obtain ⟨c0,c1⟩:=id hS.1
  clear RA RB HN
  rcases Int.lt_trichotomy x y with h | h | h
  ·have b1:decide (y < x)=false:=by simp;omega
   have b2:decide (x < y)=true:=by simp;omega
   have b3:(y == x)=false:=by simp;omega
   have HF:Hid (RR=a):=hid (by rw [HRR.out];rw [if_neg (by omega),if_neg (by omega)])
   clear h
   go_wp2
   go_ret
   exact ⟨by rw [HF.out];rfl,hS.2⟩
  ·subst h
   have HF:Hid (RR=ab):=hid (by rw [HRR.out,if_neg (by omega),if_pos rfl])
   go_wp2
   go_ret
   exact ⟨by rw [HF.out];rfl,hS.2⟩
  ·have b1:decide (y < x)=true:=by simp;omega
   have b2:decide (x < y)=false:=by simp;omega
   have b3:(y == x)=false:=by simp;omega
   have HF:Hid (RR=b):=hid (by rw [HRR.out];rw [if_pos (by omega)])
   clear h
   go_wp2
   go_ret
   exact ⟨by rw [HF.out];rfl,hS.2⟩
set_option maxHeartbeats 3200000 in
theorem computed_64_6 (a b:Nat) (ha:a < 18446744073709551616) (hb:b < 18446744073709551616) (hn:nanW 9223372036854775808 9218868437227405312 a b=false) (w:World) :
  Calls Tryz.prog 188 #[.agg #[.int .i64 11,.int .i64 52],.int .i64 6,.int .u64 a,.int .u64 b] w fun r w' => r=.returned (.int .u64 ((binW Ieee.double 9 9223372036854775808 9218868437227405312 9221120237041090560 52 (-1074) 6 a b:Nat):Int))∧Below w.heap.size w w':=by
 have HN:=fun w => hid (anyNaN_64 a b ha hb w)
 rw [show decide (9218868437227405312 < a % 9223372036854775808 ∨ 9218868437227405312 < b % 9223372036854775808)=false from hn] at HN
 have hn2:a % 9223372036854775808≤9218868437227405312∧b % 9223372036854775808≤9218868437227405312:=by unfold nanW at hn;simp at hn;omega
 have RA:=fun w => hid (rank_64 a ha w)
 have RB:=fun w => hid (rank_64 b hb w)
 obtain ⟨RR,hRR⟩:∃ RR:Nat,RR=binW Ieee.double 9 9223372036854775808 9218868437227405312 9221120237041090560 52 (-1074) 6 a b:=⟨_,rfl⟩
 rw [← hRR]
 unfold binW at hRR
 rw [if_neg (by rw [hn];simp)] at hRR
 rw [if_neg (by decide),if_neg (by decide),if_neg (by decide),if_neg (by decide),if_neg (by decide),if_pos rfl] at hRR
 have hor:=bits_and_u64_nat a b (by omega) (by omega)
 obtain ⟨x,hx⟩:∃ x:Int,x=rankOf 9223372036854775808 a:=⟨_,rfl⟩
 obtain ⟨y,hy⟩:∃ y:Int,y=rankOf 9223372036854775808 b:=⟨_,rfl⟩
 rw [← hx] at RA
 rw [← hy] at RB
 rw [← hx,← hy] at hRR
 obtain ⟨ab,hab⟩:∃ ab:Nat,ab=a &&& b:=⟨_,rfl⟩
 rw [← hab] at hor hRR
 have HRR:=hid hRR
 clear hRR hx hy hab
 have hS:=Sx.new 11 52 w
 obtain ⟨c0,c1⟩:=id hS.1
 clear ha hb hn hn2
 go_enter Tryz.func188,Tryz.ntmps188
 go_upto_region 3 with (first
  | (go_at_call 186;((with_reducible refine (HN _).out.mono ?_);rintro e w1 ⟨rfl,hb⟩;replace hS:=hS.call hb;have c0:=hS.1.1;have c1:=hS.1.2)))
 go_cut [9,10] (fun s2 s3 wx => s2=.int .i64 x∧s3=.int .i64 y∧Sx 11 52 w wx)
 case first =>
  clear hb
  go_region_held3 (fun w' => w'.cell? ⟨w.heap.size,0,none⟩=some (.int .i64 11)∧w'.cell? ⟨w.heap.size,1,none⟩=some (.int .i64 52)∧Sx 11 52 w w')
   (first
    | exact ⟨c0,c1,hS.drew⟩
    | (go_split_ands;exact ⟨bkeep ‹_› hb,bkeep ‹_› hb,Sx.call ‹_› hb⟩)
    | (go_split_ands;exact ⟨‹_›,‹_›,‹_›⟩))
   (first
    | (go_at_call 187;((with_reducible refine (RA _).out.mono ?_);rintro e w' ⟨rfl,hb⟩))
    | (go_at_call 187;((with_reducible refine (RB _).out.mono ?_);rintro e w' ⟨rfl,hb⟩)))
  all_goals
   (go_wp2_with fail)
   go_meet
   go_split_ands
   exact ⟨rfl,rfl,‹_›⟩
 case rest =>
  clear hS c0 c1 hb
  obtain ⟨rfl,rfl,hS⟩:=hcut
  obtain ⟨c0,c1⟩:=id hS.1
  clear RA RB HN
  rcases Int.lt_trichotomy x y with h | h | h
  ·have b1:decide (y < x)=false:=by simp;omega
   have b2:decide (x < y)=true:=by simp;omega
   have b3:(y == x)=false:=by simp;omega
   have HF:Hid (RR=b):=hid (by rw [HRR.out];rw [if_pos (by omega)])
   clear h
   go_wp2
   go_ret
   exact ⟨by rw [HF.out];rfl,hS.2⟩
  ·subst h
   have HF:Hid (RR=ab):=hid (by rw [HRR.out,if_neg (by omega),if_pos rfl])
   go_wp2
   go_ret
   exact ⟨by rw [HF.out];rfl,hS.2⟩
  ·have b1:decide (y < x)=true:=by simp;omega
   have b2:decide (x < y)=false:=by simp;omega
   have b3:(y == x)=false:=by simp;omega
   have HF:Hid (RR=a):=hid (by rw [HRR.out];rw [if_neg (by omega),if_neg (by omega)])
   clear h
   go_wp2
   go_ret
   exact ⟨by rw [HF.out];rfl,hS.2⟩
set_option maxHeartbeats 3200000 in
theorem Bin_64_1 (a b:Nat) (ha:a < 18446744073709551616) (hb:b < 18446744073709551616) (w:World) :
  Calls Tryz.prog 111 #[.int .i64 64,.int .i64 1,.int .u64 a,.int .u64 b] w fun e w' => e=.returned (.tuple #[.int .u64 ((binW Ieee.double 9 9223372036854775808 9218868437227405312 9221120237041090560 52 (-1074) 1 (a % 18446744073709551616) (b % 18446744073709551616):Nat):Int),.int .i64 0])∧Below w.heap.size w w':=by
 have CA:=fun w => hid (cut_64 a ha w)
 have CB:=fun w => hid (cut_64 b hb w)
 have ha1:a % 18446744073709551616 < 18446744073709551616:=by omega
 have hb1:b % 18446744073709551616 < 18446744073709551616:=by omega
 generalize a % 18446744073709551616=a1 at *
 generalize b % 18446744073709551616=b1 at *
 obtain ⟨RR,hRR⟩:∃ RR:Nat,RR=binW Ieee.double 9 9223372036854775808 9218868437227405312 9221120237041090560 52 (-1074) 1 a1 b1:=⟨_,rfl⟩
 rw [← hRR]
 have CC:∀ W,Hid (Calls Tryz.prog 188 #[.agg #[.int .i64 11,.int .i64 52],.int .i64 1,.int .u64 a1,.int .u64 b1] W fun r w' => r=.returned (.int .u64 (RR:Int))∧Below W.heap.size W w'):=fun W => by
  cases hn:nanW 9223372036854775808 9218868437227405312 a1 b1 with
  | true =>
   have h:=computed_64_nan 1 a1 b1 ha1 hb1 hn W
   have:RR=9221120237041090560:=by rw [hRR];unfold binW;rw [if_pos ⟨by decide,hn⟩]
   rw [this];exact h
  | false => rw [hRR];exact computed_64_1 a1 b1 ha1 hb1 hn W
 clear hRR ha1 hb1
 clear ha hb
 go_enter Tryz.func111,Tryz.ntmps111
 go_wp2_with (first
  | (go_at_call 179;((with_reducible refine (formatOf_64 _).mono ?_);rintro e w1 ⟨rfl,hb1⟩))
  | (go_at_call 180;((with_reducible refine (known_64 _).mono ?_);rintro e w2 ⟨rfl,hb2⟩;have hS:=(Sg.new 11 52 hb1).call hb2;obtain ⟨c0,c1⟩:=id hS.1)))
 go_cut [2,3] (fun s2 s3 wx => s2=.int .u64 a1∧s3=.int .u64 b1∧Sg 11 52 w w1.heap.size wx)
 case first =>
  go_region_held3 (fun w' => w'.cell? ⟨w1.heap.size,0,none⟩=some (.int .i64 11)∧w'.cell? ⟨w1.heap.size,1,none⟩=some (.int .i64 52)∧Sg 11 52 w w1.heap.size w')
    (first
     | exact ⟨c0,c1,hS.drew⟩
     | (go_split_ands;exact ⟨bkeep ‹_› hb,bkeep ‹_› hb,Sg.call ‹_› hb⟩)
     | (go_split_ands;exact ⟨‹_›,‹_›,‹_›⟩))
   (first
    | (go_at_call 181;((with_reducible refine (CA _).out.mono ?_);rintro e w' ⟨rfl,hb⟩))
    | (go_at_call 181;((with_reducible refine (CB _).out.mono ?_);rintro e w' ⟨rfl,hb⟩)))
  all_goals
   (go_wp2_with fail)
   go_meet
   go_split_ands
   exact ⟨rfl,rfl,‹_›⟩
 case rest =>
  clear hS c0 c1 CA CB
  obtain ⟨rfl,rfl,hS⟩:=hcut
  obtain ⟨c0,c1⟩:=id hS.1
  go_wp2_with (go_at_call 188;((with_reducible refine (CC _).out.mono ?_);rintro e w4 ⟨rfl,hb4⟩))
  go_ret2
  exact ⟨rfl,bnext hS.2.2 hb4⟩
set_option maxHeartbeats 3200000 in
theorem Bin_64_2 (a b:Nat) (ha:a < 18446744073709551616) (hb:b < 18446744073709551616) (w:World) :
  Calls Tryz.prog 111 #[.int .i64 64,.int .i64 2,.int .u64 a,.int .u64 b] w fun e w' => e=.returned (.tuple #[.int .u64 ((binW Ieee.double 9 9223372036854775808 9218868437227405312 9221120237041090560 52 (-1074) 2 (a % 18446744073709551616) (b % 18446744073709551616):Nat):Int),.int .i64 0])∧Below w.heap.size w w':=by
 have CA:=fun w => hid (cut_64 a ha w)
 have CB:=fun w => hid (cut_64 b hb w)
 have ha1:a % 18446744073709551616 < 18446744073709551616:=by omega
 have hb1:b % 18446744073709551616 < 18446744073709551616:=by omega
 generalize a % 18446744073709551616=a1 at *
 generalize b % 18446744073709551616=b1 at *
 obtain ⟨RR,hRR⟩:∃ RR:Nat,RR=binW Ieee.double 9 9223372036854775808 9218868437227405312 9221120237041090560 52 (-1074) 2 a1 b1:=⟨_,rfl⟩
 rw [← hRR]
 have CC:∀ W,Hid (Calls Tryz.prog 188 #[.agg #[.int .i64 11,.int .i64 52],.int .i64 2,.int .u64 a1,.int .u64 b1] W fun r w' => r=.returned (.int .u64 (RR:Int))∧Below W.heap.size W w'):=fun W => by
  cases hn:nanW 9223372036854775808 9218868437227405312 a1 b1 with
  | true =>
   have h:=computed_64_nan 2 a1 b1 ha1 hb1 hn W
   have:RR=9221120237041090560:=by rw [hRR];unfold binW;rw [if_pos ⟨by decide,hn⟩]
   rw [this];exact h
  | false => rw [hRR];exact computed_64_2 a1 b1 ha1 hb1 hn W
 clear hRR ha1 hb1
 clear ha hb
 go_enter Tryz.func111,Tryz.ntmps111
 go_wp2_with (first
  | (go_at_call 179;((with_reducible refine (formatOf_64 _).mono ?_);rintro e w1 ⟨rfl,hb1⟩))
  | (go_at_call 180;((with_reducible refine (known_64 _).mono ?_);rintro e w2 ⟨rfl,hb2⟩;have hS:=(Sg.new 11 52 hb1).call hb2;obtain ⟨c0,c1⟩:=id hS.1)))
 go_cut [2,3] (fun s2 s3 wx => s2=.int .u64 a1∧s3=.int .u64 b1∧Sg 11 52 w w1.heap.size wx)
 case first =>
  go_region_held3 (fun w' => w'.cell? ⟨w1.heap.size,0,none⟩=some (.int .i64 11)∧w'.cell? ⟨w1.heap.size,1,none⟩=some (.int .i64 52)∧Sg 11 52 w w1.heap.size w')
    (first
     | exact ⟨c0,c1,hS.drew⟩
     | (go_split_ands;exact ⟨bkeep ‹_› hb,bkeep ‹_› hb,Sg.call ‹_› hb⟩)
     | (go_split_ands;exact ⟨‹_›,‹_›,‹_›⟩))
   (first
    | (go_at_call 181;((with_reducible refine (CA _).out.mono ?_);rintro e w' ⟨rfl,hb⟩))
    | (go_at_call 181;((with_reducible refine (CB _).out.mono ?_);rintro e w' ⟨rfl,hb⟩)))
  all_goals
   (go_wp2_with fail)
   go_meet
   go_split_ands
   exact ⟨rfl,rfl,‹_›⟩
 case rest =>
  clear hS c0 c1 CA CB
  obtain ⟨rfl,rfl,hS⟩:=hcut
  obtain ⟨c0,c1⟩:=id hS.1
  go_wp2_with (go_at_call 188;((with_reducible refine (CC _).out.mono ?_);rintro e w4 ⟨rfl,hb4⟩))
  go_ret2
  exact ⟨rfl,bnext hS.2.2 hb4⟩
set_option maxHeartbeats 3200000 in
theorem Bin_64_3 (a b:Nat) (ha:a < 18446744073709551616) (hb:b < 18446744073709551616) (w:World) :
  Calls Tryz.prog 111 #[.int .i64 64,.int .i64 3,.int .u64 a,.int .u64 b] w fun e w' => e=.returned (.tuple #[.int .u64 ((binW Ieee.double 9 9223372036854775808 9218868437227405312 9221120237041090560 52 (-1074) 3 (a % 18446744073709551616) (b % 18446744073709551616):Nat):Int),.int .i64 0])∧Below w.heap.size w w':=by
 have CA:=fun w => hid (cut_64 a ha w)
 have CB:=fun w => hid (cut_64 b hb w)
 have ha1:a % 18446744073709551616 < 18446744073709551616:=by omega
 have hb1:b % 18446744073709551616 < 18446744073709551616:=by omega
 generalize a % 18446744073709551616=a1 at *
 generalize b % 18446744073709551616=b1 at *
 obtain ⟨RR,hRR⟩:∃ RR:Nat,RR=binW Ieee.double 9 9223372036854775808 9218868437227405312 9221120237041090560 52 (-1074) 3 a1 b1:=⟨_,rfl⟩
 rw [← hRR]
 have CC:∀ W,Hid (Calls Tryz.prog 188 #[.agg #[.int .i64 11,.int .i64 52],.int .i64 3,.int .u64 a1,.int .u64 b1] W fun r w' => r=.returned (.int .u64 (RR:Int))∧Below W.heap.size W w'):=fun W => by
  cases hn:nanW 9223372036854775808 9218868437227405312 a1 b1 with
  | true =>
   have h:=computed_64_nan 3 a1 b1 ha1 hb1 hn W
   have:RR=9221120237041090560:=by rw [hRR];unfold binW;rw [if_pos ⟨by decide,hn⟩]
   rw [this];exact h
  | false => rw [hRR];exact computed_64_3 a1 b1 ha1 hb1 hn W
 clear hRR ha1 hb1
 clear ha hb
 go_enter Tryz.func111,Tryz.ntmps111
 go_wp2_with (first
  | (go_at_call 179;((with_reducible refine (formatOf_64 _).mono ?_);rintro e w1 ⟨rfl,hb1⟩))
  | (go_at_call 180;((with_reducible refine (known_64 _).mono ?_);rintro e w2 ⟨rfl,hb2⟩;have hS:=(Sg.new 11 52 hb1).call hb2;obtain ⟨c0,c1⟩:=id hS.1)))
 go_cut [2,3] (fun s2 s3 wx => s2=.int .u64 a1∧s3=.int .u64 b1∧Sg 11 52 w w1.heap.size wx)
 case first =>
  go_region_held3 (fun w' => w'.cell? ⟨w1.heap.size,0,none⟩=some (.int .i64 11)∧w'.cell? ⟨w1.heap.size,1,none⟩=some (.int .i64 52)∧Sg 11 52 w w1.heap.size w')
    (first
     | exact ⟨c0,c1,hS.drew⟩
     | (go_split_ands;exact ⟨bkeep ‹_› hb,bkeep ‹_› hb,Sg.call ‹_› hb⟩)
     | (go_split_ands;exact ⟨‹_›,‹_›,‹_›⟩))
   (first
    | (go_at_call 181;((with_reducible refine (CA _).out.mono ?_);rintro e w' ⟨rfl,hb⟩))
    | (go_at_call 181;((with_reducible refine (CB _).out.mono ?_);rintro e w' ⟨rfl,hb⟩)))
  all_goals
   (go_wp2_with fail)
   go_meet
   go_split_ands
   exact ⟨rfl,rfl,‹_›⟩
 case rest =>
  clear hS c0 c1 CA CB
  obtain ⟨rfl,rfl,hS⟩:=hcut
  obtain ⟨c0,c1⟩:=id hS.1
  go_wp2_with (go_at_call 188;((with_reducible refine (CC _).out.mono ?_);rintro e w4 ⟨rfl,hb4⟩))
  go_ret2
  exact ⟨rfl,bnext hS.2.2 hb4⟩
set_option maxHeartbeats 3200000 in
theorem Bin_64_4 (a b:Nat) (ha:a < 18446744073709551616) (hb:b < 18446744073709551616) (w:World) :
  Calls Tryz.prog 111 #[.int .i64 64,.int .i64 4,.int .u64 a,.int .u64 b] w fun e w' => e=.returned (.tuple #[.int .u64 ((binW Ieee.double 9 9223372036854775808 9218868437227405312 9221120237041090560 52 (-1074) 4 (a % 18446744073709551616) (b % 18446744073709551616):Nat):Int),.int .i64 0])∧Below w.heap.size w w':=by
 have CA:=fun w => hid (cut_64 a ha w)
 have CB:=fun w => hid (cut_64 b hb w)
 have ha1:a % 18446744073709551616 < 18446744073709551616:=by omega
 have hb1:b % 18446744073709551616 < 18446744073709551616:=by omega
 generalize a % 18446744073709551616=a1 at *
 generalize b % 18446744073709551616=b1 at *
 obtain ⟨RR,hRR⟩:∃ RR:Nat,RR=binW Ieee.double 9 9223372036854775808 9218868437227405312 9221120237041090560 52 (-1074) 4 a1 b1:=⟨_,rfl⟩
 rw [← hRR]
 have CC:∀ W,Hid (Calls Tryz.prog 188 #[.agg #[.int .i64 11,.int .i64 52],.int .i64 4,.int .u64 a1,.int .u64 b1] W fun r w' => r=.returned (.int .u64 (RR:Int))∧Below W.heap.size W w'):=fun W => by
  cases hn:nanW 9223372036854775808 9218868437227405312 a1 b1 with
  | true =>
   have h:=computed_64_nan 4 a1 b1 ha1 hb1 hn W
   have:RR=9221120237041090560:=by rw [hRR];unfold binW;rw [if_pos ⟨by decide,hn⟩]
   rw [this];exact h
  | false => rw [hRR];exact computed_64_4 a1 b1 ha1 hb1 hn W
 clear hRR ha1 hb1
 clear ha hb
 go_enter Tryz.func111,Tryz.ntmps111
 go_wp2_with (first
  | (go_at_call 179;((with_reducible refine (formatOf_64 _).mono ?_);rintro e w1 ⟨rfl,hb1⟩))
  | (go_at_call 180;((with_reducible refine (known_64 _).mono ?_);rintro e w2 ⟨rfl,hb2⟩;have hS:=(Sg.new 11 52 hb1).call hb2;obtain ⟨c0,c1⟩:=id hS.1)))
 go_cut [2,3] (fun s2 s3 wx => s2=.int .u64 a1∧s3=.int .u64 b1∧Sg 11 52 w w1.heap.size wx)
 case first =>
  go_region_held3 (fun w' => w'.cell? ⟨w1.heap.size,0,none⟩=some (.int .i64 11)∧w'.cell? ⟨w1.heap.size,1,none⟩=some (.int .i64 52)∧Sg 11 52 w w1.heap.size w')
    (first
     | exact ⟨c0,c1,hS.drew⟩
     | (go_split_ands;exact ⟨bkeep ‹_› hb,bkeep ‹_› hb,Sg.call ‹_› hb⟩)
     | (go_split_ands;exact ⟨‹_›,‹_›,‹_›⟩))
   (first
    | (go_at_call 181;((with_reducible refine (CA _).out.mono ?_);rintro e w' ⟨rfl,hb⟩))
    | (go_at_call 181;((with_reducible refine (CB _).out.mono ?_);rintro e w' ⟨rfl,hb⟩)))
  all_goals
   (go_wp2_with fail)
   go_meet
   go_split_ands
   exact ⟨rfl,rfl,‹_›⟩
 case rest =>
  clear hS c0 c1 CA CB
  obtain ⟨rfl,rfl,hS⟩:=hcut
  obtain ⟨c0,c1⟩:=id hS.1
  go_wp2_with (go_at_call 188;((with_reducible refine (CC _).out.mono ?_);rintro e w4 ⟨rfl,hb4⟩))
  go_ret2
  exact ⟨rfl,bnext hS.2.2 hb4⟩
set_option maxHeartbeats 3200000 in
theorem Bin_64_5 (a b:Nat) (ha:a < 18446744073709551616) (hb:b < 18446744073709551616) (w:World) :
  Calls Tryz.prog 111 #[.int .i64 64,.int .i64 5,.int .u64 a,.int .u64 b] w fun e w' => e=.returned (.tuple #[.int .u64 ((binW Ieee.double 9 9223372036854775808 9218868437227405312 9221120237041090560 52 (-1074) 5 (a % 18446744073709551616) (b % 18446744073709551616):Nat):Int),.int .i64 0])∧Below w.heap.size w w':=by
 have CA:=fun w => hid (cut_64 a ha w)
 have CB:=fun w => hid (cut_64 b hb w)
 have ha1:a % 18446744073709551616 < 18446744073709551616:=by omega
 have hb1:b % 18446744073709551616 < 18446744073709551616:=by omega
 generalize a % 18446744073709551616=a1 at *
 generalize b % 18446744073709551616=b1 at *
 obtain ⟨RR,hRR⟩:∃ RR:Nat,RR=binW Ieee.double 9 9223372036854775808 9218868437227405312 9221120237041090560 52 (-1074) 5 a1 b1:=⟨_,rfl⟩
 rw [← hRR]
 have CC:∀ W,Hid (Calls Tryz.prog 188 #[.agg #[.int .i64 11,.int .i64 52],.int .i64 5,.int .u64 a1,.int .u64 b1] W fun r w' => r=.returned (.int .u64 (RR:Int))∧Below W.heap.size W w'):=fun W => by
  cases hn:nanW 9223372036854775808 9218868437227405312 a1 b1 with
  | true =>
   have h:=computed_64_nan 5 a1 b1 ha1 hb1 hn W
   have:RR=9221120237041090560:=by rw [hRR];unfold binW;rw [if_pos ⟨by decide,hn⟩]
   rw [this];exact h
  | false => rw [hRR];exact computed_64_5 a1 b1 ha1 hb1 hn W
 clear hRR ha1 hb1
 clear ha hb
 go_enter Tryz.func111,Tryz.ntmps111
 go_wp2_with (first
  | (go_at_call 179;((with_reducible refine (formatOf_64 _).mono ?_);rintro e w1 ⟨rfl,hb1⟩))
  | (go_at_call 180;((with_reducible refine (known_64 _).mono ?_);rintro e w2 ⟨rfl,hb2⟩;have hS:=(Sg.new 11 52 hb1).call hb2;obtain ⟨c0,c1⟩:=id hS.1)))
 go_cut [2,3] (fun s2 s3 wx => s2=.int .u64 a1∧s3=.int .u64 b1∧Sg 11 52 w w1.heap.size wx)
 case first =>
  go_region_held3 (fun w' => w'.cell? ⟨w1.heap.size,0,none⟩=some (.int .i64 11)∧w'.cell? ⟨w1.heap.size,1,none⟩=some (.int .i64 52)∧Sg 11 52 w w1.heap.size w')
    (first
     | exact ⟨c0,c1,hS.drew⟩
     | (go_split_ands;exact ⟨bkeep ‹_› hb,bkeep ‹_› hb,Sg.call ‹_› hb⟩)
     | (go_split_ands;exact ⟨‹_›,‹_›,‹_›⟩))
   (first
    | (go_at_call 181;((with_reducible refine (CA _).out.mono ?_);rintro e w' ⟨rfl,hb⟩))
    | (go_at_call 181;((with_reducible refine (CB _).out.mono ?_);rintro e w' ⟨rfl,hb⟩)))
  all_goals
   (go_wp2_with fail)
   go_meet
   go_split_ands
   exact ⟨rfl,rfl,‹_›⟩
 case rest =>
  clear hS c0 c1 CA CB
  obtain ⟨rfl,rfl,hS⟩:=hcut
  obtain ⟨c0,c1⟩:=id hS.1
  go_wp2_with (go_at_call 188;((with_reducible refine (CC _).out.mono ?_);rintro e w4 ⟨rfl,hb4⟩))
  go_ret2
  exact ⟨rfl,bnext hS.2.2 hb4⟩
set_option maxHeartbeats 3200000 in
theorem Bin_64_6 (a b:Nat) (ha:a < 18446744073709551616) (hb:b < 18446744073709551616) (w:World) :
  Calls Tryz.prog 111 #[.int .i64 64,.int .i64 6,.int .u64 a,.int .u64 b] w fun e w' => e=.returned (.tuple #[.int .u64 ((binW Ieee.double 9 9223372036854775808 9218868437227405312 9221120237041090560 52 (-1074) 6 (a % 18446744073709551616) (b % 18446744073709551616):Nat):Int),.int .i64 0])∧Below w.heap.size w w':=by
 have CA:=fun w => hid (cut_64 a ha w)
 have CB:=fun w => hid (cut_64 b hb w)
 have ha1:a % 18446744073709551616 < 18446744073709551616:=by omega
 have hb1:b % 18446744073709551616 < 18446744073709551616:=by omega
 generalize a % 18446744073709551616=a1 at *
 generalize b % 18446744073709551616=b1 at *
 obtain ⟨RR,hRR⟩:∃ RR:Nat,RR=binW Ieee.double 9 9223372036854775808 9218868437227405312 9221120237041090560 52 (-1074) 6 a1 b1:=⟨_,rfl⟩
 rw [← hRR]
 have CC:∀ W,Hid (Calls Tryz.prog 188 #[.agg #[.int .i64 11,.int .i64 52],.int .i64 6,.int .u64 a1,.int .u64 b1] W fun r w' => r=.returned (.int .u64 (RR:Int))∧Below W.heap.size W w'):=fun W => by
  cases hn:nanW 9223372036854775808 9218868437227405312 a1 b1 with
  | true =>
   have h:=computed_64_nan 6 a1 b1 ha1 hb1 hn W
   have:RR=9221120237041090560:=by rw [hRR];unfold binW;rw [if_pos ⟨by decide,hn⟩]
   rw [this];exact h
  | false => rw [hRR];exact computed_64_6 a1 b1 ha1 hb1 hn W
 clear hRR ha1 hb1
 clear ha hb
 go_enter Tryz.func111,Tryz.ntmps111
 go_wp2_with (first
  | (go_at_call 179;((with_reducible refine (formatOf_64 _).mono ?_);rintro e w1 ⟨rfl,hb1⟩))
  | (go_at_call 180;((with_reducible refine (known_64 _).mono ?_);rintro e w2 ⟨rfl,hb2⟩;have hS:=(Sg.new 11 52 hb1).call hb2;obtain ⟨c0,c1⟩:=id hS.1)))
 go_cut [2,3] (fun s2 s3 wx => s2=.int .u64 a1∧s3=.int .u64 b1∧Sg 11 52 w w1.heap.size wx)
 case first =>
  go_region_held3 (fun w' => w'.cell? ⟨w1.heap.size,0,none⟩=some (.int .i64 11)∧w'.cell? ⟨w1.heap.size,1,none⟩=some (.int .i64 52)∧Sg 11 52 w w1.heap.size w')
    (first
     | exact ⟨c0,c1,hS.drew⟩
     | (go_split_ands;exact ⟨bkeep ‹_› hb,bkeep ‹_› hb,Sg.call ‹_› hb⟩)
     | (go_split_ands;exact ⟨‹_›,‹_›,‹_›⟩))
   (first
    | (go_at_call 181;((with_reducible refine (CA _).out.mono ?_);rintro e w' ⟨rfl,hb⟩))
    | (go_at_call 181;((with_reducible refine (CB _).out.mono ?_);rintro e w' ⟨rfl,hb⟩)))
  all_goals
   (go_wp2_with fail)
   go_meet
   go_split_ands
   exact ⟨rfl,rfl,‹_›⟩
 case rest =>
  clear hS c0 c1 CA CB
  obtain ⟨rfl,rfl,hS⟩:=hcut
  obtain ⟨c0,c1⟩:=id hS.1
  go_wp2_with (go_at_call 188;((with_reducible refine (CC _).out.mono ?_);rintro e w4 ⟨rfl,hb4⟩))
  go_ret2
  exact ⟨rfl,bnext hS.2.2 hb4⟩
set_option maxHeartbeats 3200000 in
theorem Bin_64_7 (a b:Nat) (ha:a < 18446744073709551616) (hb:b < 18446744073709551616) (w:World) :
  Calls Tryz.prog 111 #[.int .i64 64,.int .i64 7,.int .u64 a,.int .u64 b] w fun e w' => e=.returned (.tuple #[.int .u64 ((binW Ieee.double 9 9223372036854775808 9218868437227405312 9221120237041090560 52 (-1074) 7 (a % 18446744073709551616) (b % 18446744073709551616):Nat):Int),.int .i64 0])∧Below w.heap.size w w':=by
 have CA:=fun w => hid (cut_64 a ha w)
 have CB:=fun w => hid (cut_64 b hb w)
 have ha1:a % 18446744073709551616 < 18446744073709551616:=by omega
 have hb1:b % 18446744073709551616 < 18446744073709551616:=by omega
 generalize a % 18446744073709551616=a1 at *
 generalize b % 18446744073709551616=b1 at *
 obtain ⟨RR,hRR⟩:∃ RR:Nat,RR=binW Ieee.double 9 9223372036854775808 9218868437227405312 9221120237041090560 52 (-1074) 7 a1 b1:=⟨_,rfl⟩
 rw [← hRR]
 have SC:=fun w => hid (size_64 a1 ha1 w)
 have GC:=fun w => hid (sign_64 b1 hb1 w)
 unfold binW at hRR
 rw [if_neg (by simp),if_neg (by decide),if_neg (by decide),if_neg (by decide),if_neg (by decide),if_neg (by decide),if_neg (by decide),if_pos rfl] at hRR
 obtain ⟨s,hs⟩:∃ s:Nat,s=a1 % 9223372036854775808:=⟨_,rfl⟩
 obtain ⟨g,hg⟩:∃ g:Nat,g=if 9223372036854775808≤b1 then 9223372036854775808 else 0:=⟨_,rfl⟩
 have hor:bits .or .u64 (s:Int) (g:Int)=(RR:Int):=by
  have hgb:g < 18446744073709551616:=by rw [hg];split <;> decide
  rw [bits_or_u64_nat s g (by omega) hgb,hRR,← hs,← hg,Nat.or_comm]
  have h9:=word_or 63 s (decide (9223372036854775808≤b1)) (by omega)
  rw [show (2:Nat) ^ 63=9223372036854775808 by decide] at h9
  have:(if decide (9223372036854775808≤b1)=true then 9223372036854775808 else 0)=g:=by rw [hg];simp
  rw [this] at h9
  rw [h9]
  have h8:g=if decide (9223372036854775808≤b1)=true then 9223372036854775808 else 0:=this.symm
  rw [h8]
  cases decide (9223372036854775808≤b1) <;> simp <;> omega
 rw [← hs] at SC
 rw [← hg] at GC
 clear hRR hs hg ha1 hb1
 clear ha hb
 go_enter Tryz.func111,Tryz.ntmps111
 go_wp2_with (first
  | (go_at_call 179;((with_reducible refine (formatOf_64 _).mono ?_);rintro e w1 ⟨rfl,hb1⟩))
  | (go_at_call 180;((with_reducible refine (known_64 _).mono ?_);rintro e w2 ⟨rfl,hb2⟩;have hS:=(Sg.new 11 52 hb1).call hb2;obtain ⟨c0,c1⟩:=id hS.1)))
 go_cut [2,3] (fun s2 s3 wx => s2=.int .u64 a1∧s3=.int .u64 b1∧Sg 11 52 w w1.heap.size wx)
 case first =>
  go_region_held3 (fun w' => w'.cell? ⟨w1.heap.size,0,none⟩=some (.int .i64 11)∧w'.cell? ⟨w1.heap.size,1,none⟩=some (.int .i64 52)∧Sg 11 52 w w1.heap.size w')
    (first
     | exact ⟨c0,c1,hS.drew⟩
     | (go_split_ands;exact ⟨bkeep ‹_› hb,bkeep ‹_› hb,Sg.call ‹_› hb⟩)
     | (go_split_ands;exact ⟨‹_›,‹_›,‹_›⟩))
   (first
    | (go_at_call 181;((with_reducible refine (CA _).out.mono ?_);rintro e w' ⟨rfl,hb⟩))
    | (go_at_call 181;((with_reducible refine (CB _).out.mono ?_);rintro e w' ⟨rfl,hb⟩)))
  all_goals
   (go_wp2_with fail)
   go_meet
   go_split_ands
   exact ⟨rfl,rfl,‹_›⟩
 case rest =>
  clear hS c0 c1 CA CB
  obtain ⟨rfl,rfl,hS⟩:=hcut
  obtain ⟨c0,c1⟩:=id hS.1
  go_upto_region 14 with fail
  go_region_held3 (fun w' => w'.cell? ⟨w1.heap.size,0,none⟩=some (.int .i64 11)∧w'.cell? ⟨w1.heap.size,1,none⟩=some (.int .i64 52)∧Sg 11 52 w w1.heap.size w')
   (first
    | exact ⟨c0,c1,hS.drew⟩
    | (go_split_ands;exact ⟨bkeep ‹_› hb,bkeep ‹_› hb,Sg.call ‹_› hb⟩)
    | (go_split_ands;exact ⟨‹_›,‹_›,‹_›⟩))
   (first
    | (go_at_call 182;((with_reducible refine (SC _).out.mono ?_);rintro e w' ⟨rfl,hb⟩))
    | (go_at_call 189;((with_reducible refine (GC _).out.mono ?_);rintro e w' ⟨rfl,hb⟩)))
  all_goals
   go_wp2
   go_ret2
   go_split_ands
   exact ⟨rfl,(‹Sg 11 52 w w1.heap.size _›).2.2⟩
set_option maxHeartbeats 3200000 in
theorem Bin_64_8 (a b:Nat) (ha:a < 18446744073709551616) (hb:b < 18446744073709551616) (w:World) :
  Calls Tryz.prog 111 #[.int .i64 64,.int .i64 8,.int .u64 a,.int .u64 b] w fun e w' => e=.returned (.tuple #[.int .u64 ((binW Ieee.double 9 9223372036854775808 9218868437227405312 9221120237041090560 52 (-1074) 8 (a % 18446744073709551616) (b % 18446744073709551616):Nat):Int),.int .i64 0])∧Below w.heap.size w w':=by
 have CA:=fun w => hid (cut_64 a ha w)
 have CB:=fun w => hid (cut_64 b hb w)
 have ha1:a % 18446744073709551616 < 18446744073709551616:=by omega
 have hb1:b % 18446744073709551616 < 18446744073709551616:=by omega
 generalize a % 18446744073709551616=a1 at *
 generalize b % 18446744073709551616=b1 at *
 obtain ⟨RR,hRR⟩:∃ RR:Nat,RR=binW Ieee.double 9 9223372036854775808 9218868437227405312 9221120237041090560 52 (-1074) 8 a1 b1:=⟨_,rfl⟩
 rw [← hRR]
 have LC:=fun w => hid (less_64 b1 a1 hb1 ha1 w)
 unfold binW at hRR
 rw [if_neg (by simp),if_neg (by decide),if_neg (by decide),if_neg (by decide),if_neg (by decide),if_neg (by decide),if_neg (by decide),if_neg (by decide),if_pos rfl] at hRR
 rw [show decide (9218868437227405312 < b1 % 9223372036854775808 ∨ 9218868437227405312 < a1 % 9223372036854775808)=nanW 9223372036854775808 9218868437227405312 a1 b1 from decide_eq_decide.2 Or.comm] at LC
 obtain ⟨lt,hlt⟩:∃ lt:Bool,lt=(!nanW 9223372036854775808 9218868437227405312 a1 b1 && decide (rankOf 9223372036854775808 b1 < rankOf 9223372036854775808 a1)):=⟨_,rfl⟩
 rw [← hlt] at LC hRR
 clear hlt ha1 hb1
 clear ha hb
 go_enter Tryz.func111,Tryz.ntmps111
 go_wp2_with (first
  | (go_at_call 179;((with_reducible refine (formatOf_64 _).mono ?_);rintro e w1 ⟨rfl,hb1⟩))
  | (go_at_call 180;((with_reducible refine (known_64 _).mono ?_);rintro e w2 ⟨rfl,hb2⟩;have hS:=(Sg.new 11 52 hb1).call hb2;obtain ⟨c0,c1⟩:=id hS.1)))
 go_cut [2,3] (fun s2 s3 wx => s2=.int .u64 a1∧s3=.int .u64 b1∧Sg 11 52 w w1.heap.size wx)
 case first =>
  go_region_held3 (fun w' => w'.cell? ⟨w1.heap.size,0,none⟩=some (.int .i64 11)∧w'.cell? ⟨w1.heap.size,1,none⟩=some (.int .i64 52)∧Sg 11 52 w w1.heap.size w')
    (first
     | exact ⟨c0,c1,hS.drew⟩
     | (go_split_ands;exact ⟨bkeep ‹_› hb,bkeep ‹_› hb,Sg.call ‹_› hb⟩)
     | (go_split_ands;exact ⟨‹_›,‹_›,‹_›⟩))
   (first
    | (go_at_call 181;((with_reducible refine (CA _).out.mono ?_);rintro e w' ⟨rfl,hb⟩))
    | (go_at_call 181;((with_reducible refine (CB _).out.mono ?_);rintro e w' ⟨rfl,hb⟩)))
  all_goals
   (go_wp2_with fail)
   go_meet
   go_split_ands
   exact ⟨rfl,rfl,‹_›⟩
 case rest =>
  clear hS c0 c1 CA CB
  obtain ⟨rfl,rfl,hS⟩:=hcut
  obtain ⟨c0,c1⟩:=id hS.1
  cases lt with
  | true =>
   rw [if_pos rfl] at hRR
   subst hRR
   go_wp2_with (go_at_call 190;((with_reducible refine (LC _).out.mono ?_);rintro e w4 ⟨rfl,hb4⟩))
   go_ret2
   exact ⟨rfl,bnext hS.2.2 hb4⟩
  | false =>
   rw [if_neg (by decide)] at hRR
   subst hRR
   go_wp2_with (go_at_call 190;((with_reducible refine (LC _).out.mono ?_);rintro e w4 ⟨rfl,hb4⟩))
   go_ret2
   exact ⟨rfl,bnext hS.2.2 hb4⟩
set_option maxHeartbeats 3200000 in
theorem Bin_64_9 (a b:Nat) (ha:a < 18446744073709551616) (hb:b < 18446744073709551616) (w:World) :
  Calls Tryz.prog 111 #[.int .i64 64,.int .i64 9,.int .u64 a,.int .u64 b] w fun e w' => e=.returned (.tuple #[.int .u64 ((binW Ieee.double 9 9223372036854775808 9218868437227405312 9221120237041090560 52 (-1074) 9 (a % 18446744073709551616) (b % 18446744073709551616):Nat):Int),.int .i64 0])∧Below w.heap.size w w':=by
 have CA:=fun w => hid (cut_64 a ha w)
 have CB:=fun w => hid (cut_64 b hb w)
 have ha1:a % 18446744073709551616 < 18446744073709551616:=by omega
 have hb1:b % 18446744073709551616 < 18446744073709551616:=by omega
 generalize a % 18446744073709551616=a1 at *
 generalize b % 18446744073709551616=b1 at *
 obtain ⟨RR,hRR⟩:∃ RR:Nat,RR=binW Ieee.double 9 9223372036854775808 9218868437227405312 9221120237041090560 52 (-1074) 9 a1 b1:=⟨_,rfl⟩
 rw [← hRR]
 have LC:=fun w => hid (less_64 a1 b1 ha1 hb1 w)
 unfold binW at hRR
 rw [if_neg (by simp),if_neg (by decide),if_neg (by decide),if_neg (by decide),if_neg (by decide),if_neg (by decide),if_neg (by decide),if_neg (by decide),if_neg (by decide)] at hRR
 rw [show decide (9218868437227405312 < a1 % 9223372036854775808 ∨ 9218868437227405312 < b1 % 9223372036854775808)=nanW 9223372036854775808 9218868437227405312 a1 b1 from rfl] at LC
 obtain ⟨lt,hlt⟩:∃ lt:Bool,lt=(!nanW 9223372036854775808 9218868437227405312 a1 b1 && decide (rankOf 9223372036854775808 a1 < rankOf 9223372036854775808 b1)):=⟨_,rfl⟩
 rw [← hlt] at LC hRR
 clear hlt ha1 hb1
 clear ha hb
 go_enter Tryz.func111,Tryz.ntmps111
 go_wp2_with (first
  | (go_at_call 179;((with_reducible refine (formatOf_64 _).mono ?_);rintro e w1 ⟨rfl,hb1⟩))
  | (go_at_call 180;((with_reducible refine (known_64 _).mono ?_);rintro e w2 ⟨rfl,hb2⟩;have hS:=(Sg.new 11 52 hb1).call hb2;obtain ⟨c0,c1⟩:=id hS.1)))
 go_cut [2,3] (fun s2 s3 wx => s2=.int .u64 a1∧s3=.int .u64 b1∧Sg 11 52 w w1.heap.size wx)
 case first =>
  go_region_held3 (fun w' => w'.cell? ⟨w1.heap.size,0,none⟩=some (.int .i64 11)∧w'.cell? ⟨w1.heap.size,1,none⟩=some (.int .i64 52)∧Sg 11 52 w w1.heap.size w')
    (first
     | exact ⟨c0,c1,hS.drew⟩
     | (go_split_ands;exact ⟨bkeep ‹_› hb,bkeep ‹_› hb,Sg.call ‹_› hb⟩)
     | (go_split_ands;exact ⟨‹_›,‹_›,‹_›⟩))
   (first
    | (go_at_call 181;((with_reducible refine (CA _).out.mono ?_);rintro e w' ⟨rfl,hb⟩))
    | (go_at_call 181;((with_reducible refine (CB _).out.mono ?_);rintro e w' ⟨rfl,hb⟩)))
  all_goals
   (go_wp2_with fail)
   go_meet
   go_split_ands
   exact ⟨rfl,rfl,‹_›⟩
 case rest =>
  clear hS c0 c1 CA CB
  obtain ⟨rfl,rfl,hS⟩:=hcut
  obtain ⟨c0,c1⟩:=id hS.1
  cases lt with
  | true =>
   rw [if_pos rfl] at hRR
   subst hRR
   go_wp2_with (go_at_call 190;((with_reducible refine (LC _).out.mono ?_);rintro e w4 ⟨rfl,hb4⟩))
   go_ret2
   exact ⟨rfl,bnext hS.2.2 hb4⟩
  | false =>
   rw [if_neg (by decide)] at hRR
   subst hRR
   go_wp2_with (go_at_call 190;((with_reducible refine (LC _).out.mono ?_);rintro e w4 ⟨rfl,hb4⟩))
   go_ret2
   exact ⟨rfl,bnext hS.2.2 hb4⟩
end Go.Proofs.YtlhakbkdlgejpaaGreatDoor.Fl
