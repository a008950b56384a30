/-
  FFBin: merged, what the law does not reach left out (each text says what it holds where it lies in wip). No condition.
-/
import Derived.Test.YtbbmbhcbncenaaaGreatDoorG13
import Derived.Test.YtbbmbhcbncenaaaGreatDoorG16
import Derived.Test.YtbbmbhcbncenaaaGreatDoorG18
import Derived.Test.YtbbmbhcbncenaaaGreatDoorG12
import Derived.Test.YtbbmbhcbncenaaaGreatDoorG01
set_option linter.unusedSimpArgs false
set_option linter.unusedVariables false
set_option maxRecDepth 100000
namespace Go.Proofs.YtbbmbhcbncenaaaGreatDoor.Fl
open Go.RowKit
def nanW (SB INF a b : Nat) : Bool := decide (INF < a % SB ∨ INF < b % SB)
def binW (f : Ieee.Format) (room SB INF CAN P : Nat) (low : Int) (op a b : Nat) : Nat :=
 if op ≤ 6 ∧ nanW SB INF a b = true then CAN
 else if op = 1 then sumW f room SB INF CAN P low a b
 else if op = 2 then sumW f room SB INF CAN P low a (oppN SB b)
 else if op = 3 then (f.mul a b).getD CAN
 else if op = 4 then (f.div a b).getD CAN
 else if op = 5 then (if rankOf SB b < rankOf SB a then b else if rankOf SB b = rankOf SB a then a ||| b else a)
 else if op = 6 then (if rankOf SB a < rankOf SB b then b else if rankOf SB b = rankOf SB a then a &&& b else a)
 else if op = 7 then a % SB + (if SB ≤ b then SB else 0)
 else if op = 8 then (if (!nanW SB INF a b && decide (rankOf SB b < rankOf SB a)) = true then b else a)
 else (if (!nanW SB INF a b && decide (rankOf SB a < rankOf SB b)) = true then b else a)
theorem quo_all {INF sa sb : Nat} (ha : sa ≤ INF) (hb : sb ≤ INF) (Q : Prop)
  (h : ∀ i j : Nat,(i = 1 ∨ i = 2 ∨ i = 3) → (j = 1 ∨ j = 2 ∨ j = 3) → kindOf INF sa = i → kindOf INF sb = j → Q) : Q :=
 h _ _ (kind_le ha) (kind_le hb) rfl rfl
theorem quo_32 (a b : Nat) (ha : a < 4294967296) (hb : b < 4294967296) (hna : a % 2147483648 ≤ 2139095040) (hnb : b % 2147483648 ≤ 2139095040) (w : World) :
  Calls Tryz.prog 164 #[.agg #[.int .i64 8,.int .i64 23],.int .u64 a,.int .u64 b] w fun r w' => r = .returned (.int .u64 ((((Ieee.single).div a b).getD 2143289344 : Nat) : Int)) ∧ Below w.heap.size w w' := by
 refine quo_all hna hnb _ fun i j hi hj h1 h2 => ?_
 rcases hi with rfl | rfl | rfl <;> rcases hj with rfl | rfl | rfl
 ·exact quo_32_eq a b 1 1 ha hb h1 h2 ⟨rfl,.inl rfl⟩ w
 ·exact quo_32_zero a b 1 2 ha hb h1 h2 (by decide) w
 ·exact quo_32_zero a b 1 3 ha hb h1 h2 (by decide) w
 ·exact quo_32_inf a b 2 1 ha hb h1 h2 (by decide) w
 ·exact quo_32_22 a b ha hb h1 h2 w
 ·exact quo_32_zero a b 2 3 ha hb h1 h2 (by decide) w
 ·exact quo_32_inf a b 3 1 ha hb h1 h2 (by decide) w
 ·exact quo_32_inf a b 3 2 ha hb h1 h2 (by decide) w
 ·exact quo_32_eq a b 3 3 ha hb h1 h2 ⟨rfl,.inr rfl⟩ w
theorem computed_32_nan (op : Int) (a b : Nat) (ha : a < 4294967296) (hb : b < 4294967296) (hn : nanW 2147483648 2139095040 a b = true) (w : World) :
  Calls Tryz.prog 134 #[.agg #[.int .i64 8,.int .i64 23],.int .i64 op,.int .u64 a,.int .u64 b] w fun r w' => r = .returned (.int .u64 2143289344) ∧ Below w.heap.size w w' := by
 have HN := fun w => hid (anyNaN_32 a b ha hb w)
 rw [show decide (2139095040 < a % 2147483648 ∨ 2139095040 < b % 2147483648) = true from hn] at HN
 have hS := Sx.new 8 23 w
 obtain ⟨c0,c1⟩ := id hS.1
 clear ha hb hn
 go_enter Tryz.func134,Tryz.ntmps134
 go_wp2_with (first
  | (go_at_call 123; ((with_reducible refine (HN _).out.mono ?_); rintro e w1 ⟨rfl,hb⟩; replace hS := hS.call hb; have c0 := hS.1.1; have c1 := hS.1.2))
  | (go_at_call 158; ((with_reducible refine (canonical_32 _).mono ?_); rintro e w1 ⟨rfl,hb⟩; replace hS := hS.call hb)))
 go_ret
 exact ⟨rfl,hS.2⟩
set_option maxHeartbeats 3200000 in
theorem computed_32_1 (a b : Nat) (ha : a < 4294967296) (hb : b < 4294967296) (hn : nanW 2147483648 2139095040 a b = false) (w : World) :
  Calls Tryz.prog 134 #[.agg #[.int .i64 8,.int .i64 23],.int .i64 1,.int .u64 a,.int .u64 b] w fun r w' => r = .returned (.int .u64 ((binW Ieee.single 38 2147483648 2139095040 2143289344 23 (-149) 1 a b : Nat) : Int)) ∧ Below w.heap.size w w' := by
 have HN := fun w => hid (anyNaN_32 a b ha hb w)
 rw [show decide (2139095040 < a % 2147483648 ∨ 2139095040 < b % 2147483648) = false from hn] at HN
 have hn2 : a % 2147483648 ≤ 2139095040 ∧ b % 2147483648 ≤ 2139095040 := by unfold nanW at hn; simp at hn; omega
 have RA := fun w => hid (rank_32 a ha w)
 have RB := fun w => hid (rank_32 b hb w)
 obtain ⟨RR,hRR⟩ : ∃ RR : Nat,RR = binW Ieee.single 38 2147483648 2139095040 2143289344 23 (-149) 1 a b := ⟨_,rfl⟩
 rw [← hRR]
 unfold binW at hRR
 rw [if_neg (by rw [hn]; simp)] at hRR
 rw [if_pos rfl] at hRR
 have SC := fun w => hid (sum_32 a b ha hb hn2.1 hn2.2 w)
 rw [← hRR] at SC
 obtain ⟨x,hx⟩ : ∃ x : Int,x = rankOf 2147483648 a := ⟨_,rfl⟩
 obtain ⟨y,hy⟩ : ∃ y : Int,y = rankOf 2147483648 b := ⟨_,rfl⟩
 rw [← hx] at RA
 rw [← hy] at RB
 clear hRR hx hy
 have hS := Sx.new 8 23 w
 obtain ⟨c0,c1⟩ := id hS.1
 clear ha hb hn hn2
 go_enter Tryz.func134,Tryz.ntmps134
 go_upto_region 3 with (first
  | (go_at_call 123; ((with_reducible refine (HN _).out.mono ?_); rintro e w1 ⟨rfl,hb⟩; replace hS := hS.call hb; have c0 := hS.1.1; have c1 := hS.1.2)))
 go_cut [9,10] (fun s2 s3 wx => s2 = .int .i64 x ∧ s3 = .int .i64 y ∧ Sx 8 23 w wx)
 case first =>
  clear hb
  go_region_held3 (fun w' => w'.cell? ⟨w.heap.size,0,none⟩ = some (.int .i64 8) ∧ w'.cell? ⟨w.heap.size,1,none⟩ = some (.int .i64 23) ∧ Sx 8 23 w w')
   (first
    | exact ⟨c0,c1,hS.drew⟩
    | (go_split_ands; exact ⟨bkeep ‹_› hb,bkeep ‹_› hb,Sx.call ‹_› hb⟩)
    | (go_split_ands; exact ⟨‹_›,‹_›,‹_›⟩))
   (first
    | (go_at_call 124; ((with_reducible refine (RA _).out.mono ?_); rintro e w' ⟨rfl,hb⟩))
    | (go_at_call 124; ((with_reducible refine (RB _).out.mono ?_); rintro e w' ⟨rfl,hb⟩)))
  all_goals
   (go_wp2_with fail)
   go_meet
   go_split_ands
   exact ⟨rfl,rfl,‹_›⟩
 case rest =>
  clear hS c0 c1 hb
  obtain ⟨rfl,rfl,hS⟩ := hcut
  obtain ⟨c0,c1⟩ := id hS.1
  clear RA RB HN
  go_wp2_with (go_at_call 162; ((with_reducible refine (SC _).out.mono ?_); rintro e w1 ⟨rfl,hb⟩; replace hS := hS.call hb))
  go_ret
  exact ⟨rfl,hS.2⟩
set_option maxHeartbeats 3200000 in
theorem computed_32_2 (a b : Nat) (ha : a < 4294967296) (hb : b < 4294967296) (hn : nanW 2147483648 2139095040 a b = false) (w : World) :
  Calls Tryz.prog 134 #[.agg #[.int .i64 8,.int .i64 23],.int .i64 2,.int .u64 a,.int .u64 b] w fun r w' => r = .returned (.int .u64 ((binW Ieee.single 38 2147483648 2139095040 2143289344 23 (-149) 2 a b : Nat) : Int)) ∧ Below w.heap.size w w' := by
 have HN := fun w => hid (anyNaN_32 a b ha hb w)
 rw [show decide (2139095040 < a % 2147483648 ∨ 2139095040 < b % 2147483648) = false from hn] at HN
 have hn2 : a % 2147483648 ≤ 2139095040 ∧ b % 2147483648 ≤ 2139095040 := by unfold nanW at hn; simp at hn; omega
 have RA := fun w => hid (rank_32 a ha w)
 have RB := fun w => hid (rank_32 b hb w)
 obtain ⟨RR,hRR⟩ : ∃ RR : Nat,RR = binW Ieee.single 38 2147483648 2139095040 2143289344 23 (-149) 2 a b := ⟨_,rfl⟩
 rw [← hRR]
 unfold binW at hRR
 rw [if_neg (by rw [hn]; simp)] at hRR
 rw [if_neg (by decide),if_pos rfl] at hRR
 have hob : oppN 2147483648 b < 4294967296 ∧ oppN 2147483648 b % 2147483648 = b % 2147483648 := by unfold oppN; split <;> omega
 have OC := fun w => hid (opposite_32 b hb w)
 have SC := fun w => hid (sum_32 a (oppN 2147483648 b) ha hob.1 hn2.1 (by rw [hob.2]; exact hn2.2) w)
 rw [← hRR] at SC
 obtain ⟨o,ho⟩ : ∃ o : Nat,o = oppN 2147483648 b := ⟨_,rfl⟩
 have OC2 : ∀ W,Hid (Calls Tryz.prog 131 #[.agg #[.int .i64 8,.int .i64 23],.int .u64 b] W fun e w' => e = .returned (.int .u64 (o : Int)) ∧ Below W.heap.size W w') := fun W => by rw [ho]; exact OC W
 rw [← ho] at SC
 clear ho hob OC
 obtain ⟨x,hx⟩ : ∃ x : Int,x = rankOf 2147483648 a := ⟨_,rfl⟩
 obtain ⟨y,hy⟩ : ∃ y : Int,y = rankOf 2147483648 b := ⟨_,rfl⟩
 rw [← hx] at RA
 rw [← hy] at RB
 clear hRR hx hy
 have hS := Sx.new 8 23 w
 obtain ⟨c0,c1⟩ := id hS.1
 clear ha hb hn hn2
 go_enter Tryz.func134,Tryz.ntmps134
 go_upto_region 3 with (first
  | (go_at_call 123; ((with_reducible refine (HN _).out.mono ?_); rintro e w1 ⟨rfl,hb⟩; replace hS := hS.call hb; have c0 := hS.1.1; have c1 := hS.1.2)))
 go_cut [9,10] (fun s2 s3 wx => s2 = .int .i64 x ∧ s3 = .int .i64 y ∧ Sx 8 23 w wx)
 case first =>
  clear hb
  go_region_held3 (fun w' => w'.cell? ⟨w.heap.size,0,none⟩ = some (.int .i64 8) ∧ w'.cell? ⟨w.heap.size,1,none⟩ = some (.int .i64 23) ∧ Sx 8 23 w w')
   (first
    | exact ⟨c0,c1,hS.drew⟩
    | (go_split_ands; exact ⟨bkeep ‹_› hb,bkeep ‹_› hb,Sx.call ‹_› hb⟩)
    | (go_split_ands; exact ⟨‹_›,‹_›,‹_›⟩))
   (first
    | (go_at_call 124; ((with_reducible refine (RA _).out.mono ?_); rintro e w' ⟨rfl,hb⟩))
    | (go_at_call 124; ((with_reducible refine (RB _).out.mono ?_); rintro e w' ⟨rfl,hb⟩)))
  all_goals
   (go_wp2_with fail)
   go_meet
   go_split_ands
   exact ⟨rfl,rfl,‹_›⟩
 case rest =>
  clear hS c0 c1 hb
  obtain ⟨rfl,rfl,hS⟩ := hcut
  obtain ⟨c0,c1⟩ := id hS.1
  clear RA RB HN
  go_wp2_with (first
   | (go_at_call 131; ((with_reducible refine (OC2 _).out.mono ?_); rintro e w1 ⟨rfl,hb⟩; replace hS := hS.call hb; have c0 := hS.1.1; have c1 := hS.1.2))
   | (go_at_call 162; ((with_reducible refine (SC _).out.mono ?_); rintro e w1 ⟨rfl,hb⟩; replace hS := hS.call hb)))
  go_ret
  exact ⟨rfl,hS.2⟩
set_option maxHeartbeats 3200000 in
theorem computed_32_3 (a b : Nat) (ha : a < 4294967296) (hb : b < 4294967296) (hn : nanW 2147483648 2139095040 a b = false) (w : World) :
  Calls Tryz.prog 134 #[.agg #[.int .i64 8,.int .i64 23],.int .i64 3,.int .u64 a,.int .u64 b] w fun r w' => r = .returned (.int .u64 ((binW Ieee.single 38 2147483648 2139095040 2143289344 23 (-149) 3 a b : Nat) : Int)) ∧ Below w.heap.size w w' := by
 have HN := fun w => hid (anyNaN_32 a b ha hb w)
 rw [show decide (2139095040 < a % 2147483648 ∨ 2139095040 < b % 2147483648) = false from hn] at HN
 have hn2 : a % 2147483648 ≤ 2139095040 ∧ b % 2147483648 ≤ 2139095040 := by unfold nanW at hn; simp at hn; omega
 have RA := fun w => hid (rank_32 a ha w)
 have RB := fun w => hid (rank_32 b hb w)
 obtain ⟨RR,hRR⟩ : ∃ RR : Nat,RR = binW Ieee.single 38 2147483648 2139095040 2143289344 23 (-149) 3 a b := ⟨_,rfl⟩
 rw [← hRR]
 unfold binW at hRR
 rw [if_neg (by rw [hn]; simp)] at hRR
 rw [if_neg (by decide),if_neg (by decide),if_pos rfl] at hRR
 have SC := fun w => hid (prod_32 a b ha hb hn2.1 hn2.2 w)
 rw [← hRR] at SC
 obtain ⟨x,hx⟩ : ∃ x : Int,x = rankOf 2147483648 a := ⟨_,rfl⟩
 obtain ⟨y,hy⟩ : ∃ y : Int,y = rankOf 2147483648 b := ⟨_,rfl⟩
 rw [← hx] at RA
 rw [← hy] at RB
 clear hRR hx hy
 have hS := Sx.new 8 23 w
 obtain ⟨c0,c1⟩ := id hS.1
 clear ha hb hn hn2
 go_enter Tryz.func134,Tryz.ntmps134
 go_upto_region 3 with (first
  | (go_at_call 123; ((with_reducible refine (HN _).out.mono ?_); rintro e w1 ⟨rfl,hb⟩; replace hS := hS.call hb; have c0 := hS.1.1; have c1 := hS.1.2)))
 go_cut [9,10] (fun s2 s3 wx => s2 = .int .i64 x ∧ s3 = .int .i64 y ∧ Sx 8 23 w wx)
 case first =>
  clear hb
  go_region_held3 (fun w' => w'.cell? ⟨w.heap.size,0,none⟩ = some (.int .i64 8) ∧ w'.cell? ⟨w.heap.size,1,none⟩ = some (.int .i64 23) ∧ Sx 8 23 w w')
   (first
    | exact ⟨c0,c1,hS.drew⟩
    | (go_split_ands; exact ⟨bkeep ‹_› hb,bkeep ‹_› hb,Sx.call ‹_› hb⟩)
    | (go_split_ands; exact ⟨‹_›,‹_›,‹_›⟩))
   (first
    | (go_at_call 124; ((with_reducible refine (RA _).out.mono ?_); rintro e w' ⟨rfl,hb⟩))
    | (go_at_call 124; ((with_reducible refine (RB _).out.mono ?_); rintro e w' ⟨rfl,hb⟩)))
  all_goals
   (go_wp2_with fail)
   go_meet
   go_split_ands
   exact ⟨rfl,rfl,‹_›⟩
 case rest =>
  clear hS c0 c1 hb
  obtain ⟨rfl,rfl,hS⟩ := hcut
  obtain ⟨c0,c1⟩ := id hS.1
  clear RA RB HN
  go_wp2_with (go_at_call 163; ((with_reducible refine (SC _).out.mono ?_); rintro e w1 ⟨rfl,hb⟩; replace hS := hS.call hb))
  go_ret
  exact ⟨rfl,hS.2⟩
set_option maxHeartbeats 3200000 in
theorem computed_32_4 (a b : Nat) (ha : a < 4294967296) (hb : b < 4294967296) (hn : nanW 2147483648 2139095040 a b = false) (w : World) :
  Calls Tryz.prog 134 #[.agg #[.int .i64 8,.int .i64 23],.int .i64 4,.int .u64 a,.int .u64 b] w fun r w' => r = .returned (.int .u64 ((binW Ieee.single 38 2147483648 2139095040 2143289344 23 (-149) 4 a b : Nat) : Int)) ∧ Below w.heap.size w w' := by
 have HN := fun w => hid (anyNaN_32 a b ha hb w)
 rw [show decide (2139095040 < a % 2147483648 ∨ 2139095040 < b % 2147483648) = false from hn] at HN
 have hn2 : a % 2147483648 ≤ 2139095040 ∧ b % 2147483648 ≤ 2139095040 := by unfold nanW at hn; simp at hn; omega
 have RA := fun w => hid (rank_32 a ha w)
 have RB := fun w => hid (rank_32 b hb w)
 obtain ⟨RR,hRR⟩ : ∃ RR : Nat,RR = binW Ieee.single 38 2147483648 2139095040 2143289344 23 (-149) 4 a b := ⟨_,rfl⟩
 rw [← hRR]
 unfold binW at hRR
 rw [if_neg (by rw [hn]; simp)] at hRR
 rw [if_neg (by decide),if_neg (by decide),if_neg (by decide),if_pos rfl] at hRR
 have SC := fun w => hid (quo_32 a b ha hb hn2.1 hn2.2 w)
 rw [← hRR] at SC
 obtain ⟨x,hx⟩ : ∃ x : Int,x = rankOf 2147483648 a := ⟨_,rfl⟩
 obtain ⟨y,hy⟩ : ∃ y : Int,y = rankOf 2147483648 b := ⟨_,rfl⟩
 rw [← hx] at RA
 rw [← hy] at RB
 clear hRR hx hy
 have hS := Sx.new 8 23 w
 obtain ⟨c0,c1⟩ := id hS.1
 clear ha hb hn hn2
 go_enter Tryz.func134,Tryz.ntmps134
 go_upto_region 3 with (first
  | (go_at_call 123; ((with_reducible refine (HN _).out.mono ?_); rintro e w1 ⟨rfl,hb⟩; replace hS := hS.call hb; have c0 := hS.1.1; have c1 := hS.1.2)))
 go_cut [9,10] (fun s2 s3 wx => s2 = .int .i64 x ∧ s3 = .int .i64 y ∧ Sx 8 23 w wx)
 case first =>
  clear hb
  go_region_held3 (fun w' => w'.cell? ⟨w.heap.size,0,none⟩ = some (.int .i64 8) ∧ w'.cell? ⟨w.heap.size,1,none⟩ = some (.int .i64 23) ∧ Sx 8 23 w w')
   (first
    | exact ⟨c0,c1,hS.drew⟩
    | (go_split_ands; exact ⟨bkeep ‹_› hb,bkeep ‹_› hb,Sx.call ‹_› hb⟩)
    | (go_split_ands; exact ⟨‹_›,‹_›,‹_›⟩))
   (first
    | (go_at_call 124; ((with_reducible refine (RA _).out.mono ?_); rintro e w' ⟨rfl,hb⟩))
    | (go_at_call 124; ((with_reducible refine (RB _).out.mono ?_); rintro e w' ⟨rfl,hb⟩)))
  all_goals
   (go_wp2_with fail)
   go_meet
   go_split_ands
   exact ⟨rfl,rfl,‹_›⟩
 case rest =>
  clear hS c0 c1 hb
  obtain ⟨rfl,rfl,hS⟩ := hcut
  obtain ⟨c0,c1⟩ := id hS.1
  clear RA RB HN
  go_wp2_with (go_at_call 164; ((with_reducible refine (SC _).out.mono ?_); rintro e w1 ⟨rfl,hb⟩; replace hS := hS.call hb))
  go_ret
  exact ⟨rfl,hS.2⟩
set_option maxHeartbeats 3200000 in
theorem computed_32_5 (a b : Nat) (ha : a < 4294967296) (hb : b < 4294967296) (hn : nanW 2147483648 2139095040 a b = false) (w : World) :
  Calls Tryz.prog 134 #[.agg #[.int .i64 8,.int .i64 23],.int .i64 5,.int .u64 a,.int .u64 b] w fun r w' => r = .returned (.int .u64 ((binW Ieee.single 38 2147483648 2139095040 2143289344 23 (-149) 5 a b : Nat) : Int)) ∧ Below w.heap.size w w' := by
 have HN := fun w => hid (anyNaN_32 a b ha hb w)
 rw [show decide (2139095040 < a % 2147483648 ∨ 2139095040 < b % 2147483648) = false from hn] at HN
 have hn2 : a % 2147483648 ≤ 2139095040 ∧ b % 2147483648 ≤ 2139095040 := by unfold nanW at hn; simp at hn; omega
 have RA := fun w => hid (rank_32 a ha w)
 have RB := fun w => hid (rank_32 b hb w)
 obtain ⟨RR,hRR⟩ : ∃ RR : Nat,RR = binW Ieee.single 38 2147483648 2139095040 2143289344 23 (-149) 5 a b := ⟨_,rfl⟩
 rw [← hRR]
 unfold binW at hRR
 rw [if_neg (by rw [hn]; simp)] at hRR
 rw [if_neg (by decide),if_neg (by decide),if_neg (by decide),if_neg (by decide),if_pos rfl] at hRR
 have hor := bits_or_u64_nat a b (by omega) (by omega)
 obtain ⟨x,hx⟩ : ∃ x : Int,x = rankOf 2147483648 a := ⟨_,rfl⟩
 obtain ⟨y,hy⟩ : ∃ y : Int,y = rankOf 2147483648 b := ⟨_,rfl⟩
 rw [← hx] at RA
 rw [← hy] at RB
 rw [← hx,← hy] at hRR
 obtain ⟨ab,hab⟩ : ∃ ab : Nat,ab = a ||| b := ⟨_,rfl⟩
 rw [← hab] at hor hRR
 have HRR := hid hRR
 clear hRR hx hy hab
 have hS := Sx.new 8 23 w
 obtain ⟨c0,c1⟩ := id hS.1
 clear ha hb hn hn2
 go_enter Tryz.func134,Tryz.ntmps134
 go_upto_region 3 with (first
  | (go_at_call 123; ((with_reducible refine (HN _).out.mono ?_); rintro e w1 ⟨rfl,hb⟩; replace hS := hS.call hb; have c0 := hS.1.1; have c1 := hS.1.2)))
 go_cut [9,10] (fun s2 s3 wx => s2 = .int .i64 x ∧ s3 = .int .i64 y ∧ Sx 8 23 w wx)
 case first =>
  clear hb
  go_region_held3 (fun w' => w'.cell? ⟨w.heap.size,0,none⟩ = some (.int .i64 8) ∧ w'.cell? ⟨w.heap.size,1,none⟩ = some (.int .i64 23) ∧ Sx 8 23 w w')
   (first
    | exact ⟨c0,c1,hS.drew⟩
    | (go_split_ands; exact ⟨bkeep ‹_› hb,bkeep ‹_› hb,Sx.call ‹_› hb⟩)
    | (go_split_ands; exact ⟨‹_›,‹_›,‹_›⟩))
   (first
    | (go_at_call 124; ((with_reducible refine (RA _).out.mono ?_); rintro e w' ⟨rfl,hb⟩))
    | (go_at_call 124; ((with_reducible refine (RB _).out.mono ?_); rintro e w' ⟨rfl,hb⟩)))
  all_goals
   (go_wp2_with fail)
   go_meet
   go_split_ands
   exact ⟨rfl,rfl,‹_›⟩
 case rest =>
  clear hS c0 c1 hb
  obtain ⟨rfl,rfl,hS⟩ := hcut
  obtain ⟨c0,c1⟩ := id hS.1
  clear RA RB HN
  rcases Int.lt_trichotomy x y with h | h | h
  ·have b1 : decide (y < x) = false := by simp; omega
   have b2 : decide (x < y) = true := by simp; omega
   have b3 : (y == x) = false := by simp; omega
   have HF : Hid (RR = a) := hid (by rw [HRR.out]; rw [if_neg (by omega),if_neg (by omega)])
   clear h
   go_wp2
   go_ret
   exact ⟨by rw [HF.out]; rfl,hS.2⟩
  ·subst h
   have HF : Hid (RR = ab) := hid (by rw [HRR.out,if_neg (by omega),if_pos rfl])
   go_wp2
   go_ret
   exact ⟨by rw [HF.out]; rfl,hS.2⟩
  ·have b1 : decide (y < x) = true := by simp; omega
   have b2 : decide (x < y) = false := by simp; omega
   have b3 : (y == x) = false := by simp; omega
   have HF : Hid (RR = b) := hid (by rw [HRR.out]; rw [if_pos (by omega)])
   clear h
   go_wp2
   go_ret
   exact ⟨by rw [HF.out]; rfl,hS.2⟩
set_option maxHeartbeats 3200000 in
theorem computed_32_6 (a b : Nat) (ha : a < 4294967296) (hb : b < 4294967296) (hn : nanW 2147483648 2139095040 a b = false) (w : World) :
  Calls Tryz.prog 134 #[.agg #[.int .i64 8,.int .i64 23],.int .i64 6,.int .u64 a,.int .u64 b] w fun r w' => r = .returned (.int .u64 ((binW Ieee.single 38 2147483648 2139095040 2143289344 23 (-149) 6 a b : Nat) : Int)) ∧ Below w.heap.size w w' := by
 have HN := fun w => hid (anyNaN_32 a b ha hb w)
 rw [show decide (2139095040 < a % 2147483648 ∨ 2139095040 < b % 2147483648) = false from hn] at HN
 have hn2 : a % 2147483648 ≤ 2139095040 ∧ b % 2147483648 ≤ 2139095040 := by unfold nanW at hn; simp at hn; omega
 have RA := fun w => hid (rank_32 a ha w)
 have RB := fun w => hid (rank_32 b hb w)
 obtain ⟨RR,hRR⟩ : ∃ RR : Nat,RR = binW Ieee.single 38 2147483648 2139095040 2143289344 23 (-149) 6 a b := ⟨_,rfl⟩
 rw [← hRR]
 unfold binW at hRR
 rw [if_neg (by rw [hn]; simp)] at hRR
 rw [if_neg (by decide),if_neg (by decide),if_neg (by decide),if_neg (by decide),if_neg (by decide),if_pos rfl] at hRR
 have hor := bits_and_u64_nat a b (by omega) (by omega)
 obtain ⟨x,hx⟩ : ∃ x : Int,x = rankOf 2147483648 a := ⟨_,rfl⟩
 obtain ⟨y,hy⟩ : ∃ y : Int,y = rankOf 2147483648 b := ⟨_,rfl⟩
 rw [← hx] at RA
 rw [← hy] at RB
 rw [← hx,← hy] at hRR
 obtain ⟨ab,hab⟩ : ∃ ab : Nat,ab = a &&& b := ⟨_,rfl⟩
 rw [← hab] at hor hRR
 have HRR := hid hRR
 clear hRR hx hy hab
 have hS := Sx.new 8 23 w
 obtain ⟨c0,c1⟩ := id hS.1
 clear ha hb hn hn2
 go_enter Tryz.func134,Tryz.ntmps134
 go_upto_region 3 with (first
  | (go_at_call 123; ((with_reducible refine (HN _).out.mono ?_); rintro e w1 ⟨rfl,hb⟩; replace hS := hS.call hb; have c0 := hS.1.1; have c1 := hS.1.2)))
 go_cut [9,10] (fun s2 s3 wx => s2 = .int .i64 x ∧ s3 = .int .i64 y ∧ Sx 8 23 w wx)
 case first =>
  clear hb
  go_region_held3 (fun w' => w'.cell? ⟨w.heap.size,0,none⟩ = some (.int .i64 8) ∧ w'.cell? ⟨w.heap.size,1,none⟩ = some (.int .i64 23) ∧ Sx 8 23 w w')
   (first
    | exact ⟨c0,c1,hS.drew⟩
    | (go_split_ands; exact ⟨bkeep ‹_› hb,bkeep ‹_› hb,Sx.call ‹_› hb⟩)
    | (go_split_ands; exact ⟨‹_›,‹_›,‹_›⟩))
   (first
    | (go_at_call 124; ((with_reducible refine (RA _).out.mono ?_); rintro e w' ⟨rfl,hb⟩))
    | (go_at_call 124; ((with_reducible refine (RB _).out.mono ?_); rintro e w' ⟨rfl,hb⟩)))
  all_goals
   (go_wp2_with fail)
   go_meet
   go_split_ands
   exact ⟨rfl,rfl,‹_›⟩
 case rest =>
  clear hS c0 c1 hb
  obtain ⟨rfl,rfl,hS⟩ := hcut
  obtain ⟨c0,c1⟩ := id hS.1
  clear RA RB HN
  rcases Int.lt_trichotomy x y with h | h | h
  ·have b1 : decide (y < x) = false := by simp; omega
   have b2 : decide (x < y) = true := by simp; omega
   have b3 : (y == x) = false := by simp; omega
   have HF : Hid (RR = b) := hid (by rw [HRR.out]; rw [if_pos (by omega)])
   clear h
   go_wp2
   go_ret
   exact ⟨by rw [HF.out]; rfl,hS.2⟩
  ·subst h
   have HF : Hid (RR = ab) := hid (by rw [HRR.out,if_neg (by omega),if_pos rfl])
   go_wp2
   go_ret
   exact ⟨by rw [HF.out]; rfl,hS.2⟩
  ·have b1 : decide (y < x) = true := by simp; omega
   have b2 : decide (x < y) = false := by simp; omega
   have b3 : (y == x) = false := by simp; omega
   have HF : Hid (RR = a) := hid (by rw [HRR.out]; rw [if_neg (by omega),if_neg (by omega)])
   clear h
   go_wp2
   go_ret
   exact ⟨by rw [HF.out]; rfl,hS.2⟩
set_option maxHeartbeats 3200000 in
theorem Bin_32_1 (a b : Nat) (ha : a < 18446744073709551616) (hb : b < 18446744073709551616) (w : World) :
  Calls Tryz.prog 70 #[.int .i64 32,.int .i64 1,.int .u64 a,.int .u64 b] w fun e w' => e = .returned (.tuple #[.int .u64 ((binW Ieee.single 38 2147483648 2139095040 2143289344 23 (-149) 1 (a % 4294967296) (b % 4294967296) : Nat) : Int),.int .i64 0]) ∧ Below w.heap.size w w' := by
 have CA := fun w => hid (cut_32 a ha w)
 have CB := fun w => hid (cut_32 b hb w)
 have ha1 : a % 4294967296 < 4294967296 := by omega
 have hb1 : b % 4294967296 < 4294967296 := by omega
 generalize a % 4294967296 = a1 at *
 generalize b % 4294967296 = b1 at *
 obtain ⟨RR,hRR⟩ : ∃ RR : Nat,RR = binW Ieee.single 38 2147483648 2139095040 2143289344 23 (-149) 1 a1 b1 := ⟨_,rfl⟩
 rw [← hRR]
 have CC : ∀ W,Hid (Calls Tryz.prog 134 #[.agg #[.int .i64 8,.int .i64 23],.int .i64 1,.int .u64 a1,.int .u64 b1] W fun r w' => r = .returned (.int .u64 (RR : Int)) ∧ Below W.heap.size W w') := fun W => by
  cases hn : nanW 2147483648 2139095040 a1 b1 with
  | true =>
   have h := computed_32_nan 1 a1 b1 ha1 hb1 hn W
   have : RR = 2143289344 := by rw [hRR]; unfold binW; rw [if_pos ⟨by decide,hn⟩]
   rw [this]; exact h
  | false => rw [hRR]; exact computed_32_1 a1 b1 ha1 hb1 hn W
 clear hRR ha1 hb1
 clear ha hb
 go_enter Tryz.func70,Tryz.ntmps70
 go_wp2_with (first
  | (go_at_call 120; ((with_reducible refine (formatOf_32 _).mono ?_); rintro e w1 ⟨rfl,hb1⟩))
  | (go_at_call 121; ((with_reducible refine (known_32 _).mono ?_); rintro e w2 ⟨rfl,hb2⟩; have hS := (Sg.new 8 23 hb1).call hb2; obtain ⟨c0,c1⟩ := id hS.1)))
 go_cut [2,3] (fun s2 s3 wx => s2 = .int .u64 a1 ∧ s3 = .int .u64 b1 ∧ Sg 8 23 w w1.heap.size wx)
 case first =>
  go_region_held3 (fun w' => w'.cell? ⟨w1.heap.size,0,none⟩ = some (.int .i64 8) ∧ w'.cell? ⟨w1.heap.size,1,none⟩ = some (.int .i64 23) ∧ Sg 8 23 w w1.heap.size w')
    (first
     | exact ⟨c0,c1,hS.drew⟩
     | (go_split_ands; exact ⟨bkeep ‹_› hb,bkeep ‹_› hb,Sg.call ‹_› hb⟩)
     | (go_split_ands; exact ⟨‹_›,‹_›,‹_›⟩))
   (first
    | (go_at_call 122; ((with_reducible refine (CA _).out.mono ?_); rintro e w' ⟨rfl,hb⟩))
    | (go_at_call 122; ((with_reducible refine (CB _).out.mono ?_); rintro e w' ⟨rfl,hb⟩)))
  all_goals
   (go_wp2_with fail)
   go_meet
   go_split_ands
   exact ⟨rfl,rfl,‹_›⟩
 case rest =>
  clear hS c0 c1 CA CB
  obtain ⟨rfl,rfl,hS⟩ := hcut
  obtain ⟨c0,c1⟩ := id hS.1
  go_wp2_with (go_at_call 134; ((with_reducible refine (CC _).out.mono ?_); rintro e w4 ⟨rfl,hb4⟩))
  go_ret2
  exact ⟨rfl,bnext hS.2.2 hb4⟩
set_option maxHeartbeats 3200000 in
theorem Bin_32_2 (a b : Nat) (ha : a < 18446744073709551616) (hb : b < 18446744073709551616) (w : World) :
  Calls Tryz.prog 70 #[.int .i64 32,.int .i64 2,.int .u64 a,.int .u64 b] w fun e w' => e = .returned (.tuple #[.int .u64 ((binW Ieee.single 38 2147483648 2139095040 2143289344 23 (-149) 2 (a % 4294967296) (b % 4294967296) : Nat) : Int),.int .i64 0]) ∧ Below w.heap.size w w' := by
 have CA := fun w => hid (cut_32 a ha w)
 have CB := fun w => hid (cut_32 b hb w)
 have ha1 : a % 4294967296 < 4294967296 := by omega
 have hb1 : b % 4294967296 < 4294967296 := by omega
 generalize a % 4294967296 = a1 at *
 generalize b % 4294967296 = b1 at *
 obtain ⟨RR,hRR⟩ : ∃ RR : Nat,RR = binW Ieee.single 38 2147483648 2139095040 2143289344 23 (-149) 2 a1 b1 := ⟨_,rfl⟩
 rw [← hRR]
 have CC : ∀ W,Hid (Calls Tryz.prog 134 #[.agg #[.int .i64 8,.int .i64 23],.int .i64 2,.int .u64 a1,.int .u64 b1] W fun r w' => r = .returned (.int .u64 (RR : Int)) ∧ Below W.heap.size W w') := fun W => by
  cases hn : nanW 2147483648 2139095040 a1 b1 with
  | true =>
   have h := computed_32_nan 2 a1 b1 ha1 hb1 hn W
   have : RR = 2143289344 := by rw [hRR]; unfold binW; rw [if_pos ⟨by decide,hn⟩]
   rw [this]; exact h
  | false => rw [hRR]; exact computed_32_2 a1 b1 ha1 hb1 hn W
 clear hRR ha1 hb1
 clear ha hb
 go_enter Tryz.func70,Tryz.ntmps70
 go_wp2_with (first
  | (go_at_call 120; ((with_reducible refine (formatOf_32 _).mono ?_); rintro e w1 ⟨rfl,hb1⟩))
  | (go_at_call 121; ((with_reducible refine (known_32 _).mono ?_); rintro e w2 ⟨rfl,hb2⟩; have hS := (Sg.new 8 23 hb1).call hb2; obtain ⟨c0,c1⟩ := id hS.1)))
 go_cut [2,3] (fun s2 s3 wx => s2 = .int .u64 a1 ∧ s3 = .int .u64 b1 ∧ Sg 8 23 w w1.heap.size wx)
 case first =>
  go_region_held3 (fun w' => w'.cell? ⟨w1.heap.size,0,none⟩ = some (.int .i64 8) ∧ w'.cell? ⟨w1.heap.size,1,none⟩ = some (.int .i64 23) ∧ Sg 8 23 w w1.heap.size w')
    (first
     | exact ⟨c0,c1,hS.drew⟩
     | (go_split_ands; exact ⟨bkeep ‹_› hb,bkeep ‹_› hb,Sg.call ‹_› hb⟩)
     | (go_split_ands; exact ⟨‹_›,‹_›,‹_›⟩))
   (first
    | (go_at_call 122; ((with_reducible refine (CA _).out.mono ?_); rintro e w' ⟨rfl,hb⟩))
    | (go_at_call 122; ((with_reducible refine (CB _).out.mono ?_); rintro e w' ⟨rfl,hb⟩)))
  all_goals
   (go_wp2_with fail)
   go_meet
   go_split_ands
   exact ⟨rfl,rfl,‹_›⟩
 case rest =>
  clear hS c0 c1 CA CB
  obtain ⟨rfl,rfl,hS⟩ := hcut
  obtain ⟨c0,c1⟩ := id hS.1
  go_wp2_with (go_at_call 134; ((with_reducible refine (CC _).out.mono ?_); rintro e w4 ⟨rfl,hb4⟩))
  go_ret2
  exact ⟨rfl,bnext hS.2.2 hb4⟩
set_option maxHeartbeats 3200000 in
theorem Bin_32_3 (a b : Nat) (ha : a < 18446744073709551616) (hb : b < 18446744073709551616) (w : World) :
  Calls Tryz.prog 70 #[.int .i64 32,.int .i64 3,.int .u64 a,.int .u64 b] w fun e w' => e = .returned (.tuple #[.int .u64 ((binW Ieee.single 38 2147483648 2139095040 2143289344 23 (-149) 3 (a % 4294967296) (b % 4294967296) : Nat) : Int),.int .i64 0]) ∧ Below w.heap.size w w' := by
 have CA := fun w => hid (cut_32 a ha w)
 have CB := fun w => hid (cut_32 b hb w)
 have ha1 : a % 4294967296 < 4294967296 := by omega
 have hb1 : b % 4294967296 < 4294967296 := by omega
 generalize a % 4294967296 = a1 at *
 generalize b % 4294967296 = b1 at *
 obtain ⟨RR,hRR⟩ : ∃ RR : Nat,RR = binW Ieee.single 38 2147483648 2139095040 2143289344 23 (-149) 3 a1 b1 := ⟨_,rfl⟩
 rw [← hRR]
 have CC : ∀ W,Hid (Calls Tryz.prog 134 #[.agg #[.int .i64 8,.int .i64 23],.int .i64 3,.int .u64 a1,.int .u64 b1] W fun r w' => r = .returned (.int .u64 (RR : Int)) ∧ Below W.heap.size W w') := fun W => by
  cases hn : nanW 2147483648 2139095040 a1 b1 with
  | true =>
   have h := computed_32_nan 3 a1 b1 ha1 hb1 hn W
   have : RR = 2143289344 := by rw [hRR]; unfold binW; rw [if_pos ⟨by decide,hn⟩]
   rw [this]; exact h
  | false => rw [hRR]; exact computed_32_3 a1 b1 ha1 hb1 hn W
 clear hRR ha1 hb1
 clear ha hb
 go_enter Tryz.func70,Tryz.ntmps70
 go_wp2_with (first
  | (go_at_call 120; ((with_reducible refine (formatOf_32 _).mono ?_); rintro e w1 ⟨rfl,hb1⟩))
  | (go_at_call 121; ((with_reducible refine (known_32 _).mono ?_); rintro e w2 ⟨rfl,hb2⟩; have hS := (Sg.new 8 23 hb1).call hb2; obtain ⟨c0,c1⟩ := id hS.1)))
 go_cut [2,3] (fun s2 s3 wx => s2 = .int .u64 a1 ∧ s3 = .int .u64 b1 ∧ Sg 8 23 w w1.heap.size wx)
 case first =>
  go_region_held3 (fun w' => w'.cell? ⟨w1.heap.size,0,none⟩ = some (.int .i64 8) ∧ w'.cell? ⟨w1.heap.size,1,none⟩ = some (.int .i64 23) ∧ Sg 8 23 w w1.heap.size w')
    (first
     | exact ⟨c0,c1,hS.drew⟩
     | (go_split_ands; exact ⟨bkeep ‹_› hb,bkeep ‹_› hb,Sg.call ‹_› hb⟩)
     | (go_split_ands; exact ⟨‹_›,‹_›,‹_›⟩))
   (first
    | (go_at_call 122; ((with_reducible refine (CA _).out.mono ?_); rintro e w' ⟨rfl,hb⟩))
    | (go_at_call 122; ((with_reducible refine (CB _).out.mono ?_); rintro e w' ⟨rfl,hb⟩)))
  all_goals
   (go_wp2_with fail)
   go_meet
   go_split_ands
   exact ⟨rfl,rfl,‹_›⟩
 case rest =>
  clear hS c0 c1 CA CB
  obtain ⟨rfl,rfl,hS⟩ := hcut
  obtain ⟨c0,c1⟩ := id hS.1
  go_wp2_with (go_at_call 134; ((with_reducible refine (CC _).out.mono ?_); rintro e w4 ⟨rfl,hb4⟩))
  go_ret2
  exact ⟨rfl,bnext hS.2.2 hb4⟩
set_option maxHeartbeats 3200000 in
theorem Bin_32_4 (a b : Nat) (ha : a < 18446744073709551616) (hb : b < 18446744073709551616) (w : World) :
  Calls Tryz.prog 70 #[.int .i64 32,.int .i64 4,.int .u64 a,.int .u64 b] w fun e w' => e = .returned (.tuple #[.int .u64 ((binW Ieee.single 38 2147483648 2139095040 2143289344 23 (-149) 4 (a % 4294967296) (b % 4294967296) : Nat) : Int),.int .i64 0]) ∧ Below w.heap.size w w' := by
 have CA := fun w => hid (cut_32 a ha w)
 have CB := fun w => hid (cut_32 b hb w)
 have ha1 : a % 4294967296 < 4294967296 := by omega
 have hb1 : b % 4294967296 < 4294967296 := by omega
 generalize a % 4294967296 = a1 at *
 generalize b % 4294967296 = b1 at *
 obtain ⟨RR,hRR⟩ : ∃ RR : Nat,RR = binW Ieee.single 38 2147483648 2139095040 2143289344 23 (-149) 4 a1 b1 := ⟨_,rfl⟩
 rw [← hRR]
 have CC : ∀ W,Hid (Calls Tryz.prog 134 #[.agg #[.int .i64 8,.int .i64 23],.int .i64 4,.int .u64 a1,.int .u64 b1] W fun r w' => r = .returned (.int .u64 (RR : Int)) ∧ Below W.heap.size W w') := fun W => by
  cases hn : nanW 2147483648 2139095040 a1 b1 with
  | true =>
   have h := computed_32_nan 4 a1 b1 ha1 hb1 hn W
   have : RR = 2143289344 := by rw [hRR]; unfold binW; rw [if_pos ⟨by decide,hn⟩]
   rw [this]; exact h
  | false => rw [hRR]; exact computed_32_4 a1 b1 ha1 hb1 hn W
 clear hRR ha1 hb1
 clear ha hb
 go_enter Tryz.func70,Tryz.ntmps70
 go_wp2_with (first
  | (go_at_call 120; ((with_reducible refine (formatOf_32 _).mono ?_); rintro e w1 ⟨rfl,hb1⟩))
  | (go_at_call 121; ((with_reducible refine (known_32 _).mono ?_); rintro e w2 ⟨rfl,hb2⟩; have hS := (Sg.new 8 23 hb1).call hb2; obtain ⟨c0,c1⟩ := id hS.1)))
 go_cut [2,3] (fun s2 s3 wx => s2 = .int .u64 a1 ∧ s3 = .int .u64 b1 ∧ Sg 8 23 w w1.heap.size wx)
 case first =>
  go_region_held3 (fun w' => w'.cell? ⟨w1.heap.size,0,none⟩ = some (.int .i64 8) ∧ w'.cell? ⟨w1.heap.size,1,none⟩ = some (.int .i64 23) ∧ Sg 8 23 w w1.heap.size w')
    (first
     | exact ⟨c0,c1,hS.drew⟩
     | (go_split_ands; exact ⟨bkeep ‹_› hb,bkeep ‹_› hb,Sg.call ‹_› hb⟩)
     | (go_split_ands; exact ⟨‹_›,‹_›,‹_›⟩))
   (first
    | (go_at_call 122; ((with_reducible refine (CA _).out.mono ?_); rintro e w' ⟨rfl,hb⟩))
    | (go_at_call 122; ((with_reducible refine (CB _).out.mono ?_); rintro e w' ⟨rfl,hb⟩)))
  all_goals
   (go_wp2_with fail)
   go_meet
   go_split_ands
   exact ⟨rfl,rfl,‹_›⟩
 case rest =>
  clear hS c0 c1 CA CB
  obtain ⟨rfl,rfl,hS⟩ := hcut
  obtain ⟨c0,c1⟩ := id hS.1
  go_wp2_with (go_at_call 134; ((with_reducible refine (CC _).out.mono ?_); rintro e w4 ⟨rfl,hb4⟩))
  go_ret2
  exact ⟨rfl,bnext hS.2.2 hb4⟩
set_option maxHeartbeats 3200000 in
theorem Bin_32_5 (a b : Nat) (ha : a < 18446744073709551616) (hb : b < 18446744073709551616) (w : World) :
  Calls Tryz.prog 70 #[.int .i64 32,.int .i64 5,.int .u64 a,.int .u64 b] w fun e w' => e = .returned (.tuple #[.int .u64 ((binW Ieee.single 38 2147483648 2139095040 2143289344 23 (-149) 5 (a % 4294967296) (b % 4294967296) : Nat) : Int),.int .i64 0]) ∧ Below w.heap.size w w' := by
 have CA := fun w => hid (cut_32 a ha w)
 have CB := fun w => hid (cut_32 b hb w)
 have ha1 : a % 4294967296 < 4294967296 := by omega
 have hb1 : b % 4294967296 < 4294967296 := by omega
 generalize a % 4294967296 = a1 at *
 generalize b % 4294967296 = b1 at *
 obtain ⟨RR,hRR⟩ : ∃ RR : Nat,RR = binW Ieee.single 38 2147483648 2139095040 2143289344 23 (-149) 5 a1 b1 := ⟨_,rfl⟩
 rw [← hRR]
 have CC : ∀ W,Hid (Calls Tryz.prog 134 #[.agg #[.int .i64 8,.int .i64 23],.int .i64 5,.int .u64 a1,.int .u64 b1] W fun r w' => r = .returned (.int .u64 (RR : Int)) ∧ Below W.heap.size W w') := fun W => by
  cases hn : nanW 2147483648 2139095040 a1 b1 with
  | true =>
   have h := computed_32_nan 5 a1 b1 ha1 hb1 hn W
   have : RR = 2143289344 := by rw [hRR]; unfold binW; rw [if_pos ⟨by decide,hn⟩]
   rw [this]; exact h
  | false => rw [hRR]; exact computed_32_5 a1 b1 ha1 hb1 hn W
 clear hRR ha1 hb1
 clear ha hb
 go_enter Tryz.func70,Tryz.ntmps70
 go_wp2_with (first
  | (go_at_call 120; ((with_reducible refine (formatOf_32 _).mono ?_); rintro e w1 ⟨rfl,hb1⟩))
  | (go_at_call 121; ((with_reducible refine (known_32 _).mono ?_); rintro e w2 ⟨rfl,hb2⟩; have hS := (Sg.new 8 23 hb1).call hb2; obtain ⟨c0,c1⟩ := id hS.1)))
 go_cut [2,3] (fun s2 s3 wx => s2 = .int .u64 a1 ∧ s3 = .int .u64 b1 ∧ Sg 8 23 w w1.heap.size wx)
 case first =>
  go_region_held3 (fun w' => w'.cell? ⟨w1.heap.size,0,none⟩ = some (.int .i64 8) ∧ w'.cell? ⟨w1.heap.size,1,none⟩ = some (.int .i64 23) ∧ Sg 8 23 w w1.heap.size w')
    (first
     | exact ⟨c0,c1,hS.drew⟩
     | (go_split_ands; exact ⟨bkeep ‹_› hb,bkeep ‹_› hb,Sg.call ‹_› hb⟩)
     | (go_split_ands; exact ⟨‹_›,‹_›,‹_›⟩))
   (first
    | (go_at_call 122; ((with_reducible refine (CA _).out.mono ?_); rintro e w' ⟨rfl,hb⟩))
    | (go_at_call 122; ((with_reducible refine (CB _).out.mono ?_); rintro e w' ⟨rfl,hb⟩)))
  all_goals
   (go_wp2_with fail)
   go_meet
   go_split_ands
   exact ⟨rfl,rfl,‹_›⟩
 case rest =>
  clear hS c0 c1 CA CB
  obtain ⟨rfl,rfl,hS⟩ := hcut
  obtain ⟨c0,c1⟩ := id hS.1
  go_wp2_with (go_at_call 134; ((with_reducible refine (CC _).out.mono ?_); rintro e w4 ⟨rfl,hb4⟩))
  go_ret2
  exact ⟨rfl,bnext hS.2.2 hb4⟩
set_option maxHeartbeats 3200000 in
theorem Bin_32_6 (a b : Nat) (ha : a < 18446744073709551616) (hb : b < 18446744073709551616) (w : World) :
  Calls Tryz.prog 70 #[.int .i64 32,.int .i64 6,.int .u64 a,.int .u64 b] w fun e w' => e = .returned (.tuple #[.int .u64 ((binW Ieee.single 38 2147483648 2139095040 2143289344 23 (-149) 6 (a % 4294967296) (b % 4294967296) : Nat) : Int),.int .i64 0]) ∧ Below w.heap.size w w' := by
 have CA := fun w => hid (cut_32 a ha w)
 have CB := fun w => hid (cut_32 b hb w)
 have ha1 : a % 4294967296 < 4294967296 := by omega
 have hb1 : b % 4294967296 < 4294967296 := by omega
 generalize a % 4294967296 = a1 at *
 generalize b % 4294967296 = b1 at *
 obtain ⟨RR,hRR⟩ : ∃ RR : Nat,RR = binW Ieee.single 38 2147483648 2139095040 2143289344 23 (-149) 6 a1 b1 := ⟨_,rfl⟩
 rw [← hRR]
 have CC : ∀ W,Hid (Calls Tryz.prog 134 #[.agg #[.int .i64 8,.int .i64 23],.int .i64 6,.int .u64 a1,.int .u64 b1] W fun r w' => r = .returned (.int .u64 (RR : Int)) ∧ Below W.heap.size W w') := fun W => by
  cases hn : nanW 2147483648 2139095040 a1 b1 with
  | true =>
   have h := computed_32_nan 6 a1 b1 ha1 hb1 hn W
   have : RR = 2143289344 := by rw [hRR]; unfold binW; rw [if_pos ⟨by decide,hn⟩]
   rw [this]; exact h
  | false => rw [hRR]; exact computed_32_6 a1 b1 ha1 hb1 hn W
 clear hRR ha1 hb1
 clear ha hb
 go_enter Tryz.func70,Tryz.ntmps70
 go_wp2_with (first
  | (go_at_call 120; ((with_reducible refine (formatOf_32 _).mono ?_); rintro e w1 ⟨rfl,hb1⟩))
  | (go_at_call 121; ((with_reducible refine (known_32 _).mono ?_); rintro e w2 ⟨rfl,hb2⟩; have hS := (Sg.new 8 23 hb1).call hb2; obtain ⟨c0,c1⟩ := id hS.1)))
 go_cut [2,3] (fun s2 s3 wx => s2 = .int .u64 a1 ∧ s3 = .int .u64 b1 ∧ Sg 8 23 w w1.heap.size wx)
 case first =>
  go_region_held3 (fun w' => w'.cell? ⟨w1.heap.size,0,none⟩ = some (.int .i64 8) ∧ w'.cell? ⟨w1.heap.size,1,none⟩ = some (.int .i64 23) ∧ Sg 8 23 w w1.heap.size w')
    (first
     | exact ⟨c0,c1,hS.drew⟩
     | (go_split_ands; exact ⟨bkeep ‹_› hb,bkeep ‹_› hb,Sg.call ‹_› hb⟩)
     | (go_split_ands; exact ⟨‹_›,‹_›,‹_›⟩))
   (first
    | (go_at_call 122; ((with_reducible refine (CA _).out.mono ?_); rintro e w' ⟨rfl,hb⟩))
    | (go_at_call 122; ((with_reducible refine (CB _).out.mono ?_); rintro e w' ⟨rfl,hb⟩)))
  all_goals
   (go_wp2_with fail)
   go_meet
   go_split_ands
   exact ⟨rfl,rfl,‹_›⟩
 case rest =>
  clear hS c0 c1 CA CB
  obtain ⟨rfl,rfl,hS⟩ := hcut
  obtain ⟨c0,c1⟩ := id hS.1
  go_wp2_with (go_at_call 134; ((with_reducible refine (CC _).out.mono ?_); rintro e w4 ⟨rfl,hb4⟩))
  go_ret2
  exact ⟨rfl,bnext hS.2.2 hb4⟩
set_option maxHeartbeats 3200000 in
theorem Bin_32_7 (a b : Nat) (ha : a < 18446744073709551616) (hb : b < 18446744073709551616) (w : World) :
  Calls Tryz.prog 70 #[.int .i64 32,.int .i64 7,.int .u64 a,.int .u64 b] w fun e w' => e = .returned (.tuple #[.int .u64 ((binW Ieee.single 38 2147483648 2139095040 2143289344 23 (-149) 7 (a % 4294967296) (b % 4294967296) : Nat) : Int),.int .i64 0]) ∧ Below w.heap.size w w' := by
 have CA := fun w => hid (cut_32 a ha w)
 have CB := fun w => hid (cut_32 b hb w)
 have ha1 : a % 4294967296 < 4294967296 := by omega
 have hb1 : b % 4294967296 < 4294967296 := by omega
 generalize a % 4294967296 = a1 at *
 generalize b % 4294967296 = b1 at *
 obtain ⟨RR,hRR⟩ : ∃ RR : Nat,RR = binW Ieee.single 38 2147483648 2139095040 2143289344 23 (-149) 7 a1 b1 := ⟨_,rfl⟩
 rw [← hRR]
 have SC := fun w => hid (size_32 a1 ha1 w)
 have GC := fun w => hid (sign_32 b1 hb1 w)
 unfold binW at hRR
 rw [if_neg (by simp),if_neg (by decide),if_neg (by decide),if_neg (by decide),if_neg (by decide),if_neg (by decide),if_neg (by decide),if_pos rfl] at hRR
 obtain ⟨s,hs⟩ : ∃ s : Nat,s = a1 % 2147483648 := ⟨_,rfl⟩
 obtain ⟨g,hg⟩ : ∃ g : Nat,g = if 2147483648 ≤ b1 then 2147483648 else 0 := ⟨_,rfl⟩
 have hor : bits .or .u64 (s : Int) (g : Int) = (RR : Int) := by
  have hgb : g < 18446744073709551616 := by rw [hg]; split <;> decide
  rw [bits_or_u64_nat s g (by omega) hgb,hRR,← hs,← hg,Nat.or_comm]
  have h9 := word_or 31 s (decide (2147483648 ≤ b1)) (by omega)
  rw [show (2 : Nat) ^ 31 = 2147483648 by decide] at h9
  have : (if decide (2147483648 ≤ b1) = true then 2147483648 else 0) = g := by rw [hg]; simp
  rw [this] at h9
  rw [h9]
  have h8 : g = if decide (2147483648 ≤ b1) = true then 2147483648 else 0 := this.symm
  rw [h8]
  cases decide (2147483648 ≤ b1) <;> simp <;> omega
 rw [← hs] at SC
 rw [← hg] at GC
 clear hRR hs hg ha1 hb1
 clear ha hb
 go_enter Tryz.func70,Tryz.ntmps70
 go_wp2_with (first
  | (go_at_call 120; ((with_reducible refine (formatOf_32 _).mono ?_); rintro e w1 ⟨rfl,hb1⟩))
  | (go_at_call 121; ((with_reducible refine (known_32 _).mono ?_); rintro e w2 ⟨rfl,hb2⟩; have hS := (Sg.new 8 23 hb1).call hb2; obtain ⟨c0,c1⟩ := id hS.1)))
 go_cut [2,3] (fun s2 s3 wx => s2 = .int .u64 a1 ∧ s3 = .int .u64 b1 ∧ Sg 8 23 w w1.heap.size wx)
 case first =>
  go_region_held3 (fun w' => w'.cell? ⟨w1.heap.size,0,none⟩ = some (.int .i64 8) ∧ w'.cell? ⟨w1.heap.size,1,none⟩ = some (.int .i64 23) ∧ Sg 8 23 w w1.heap.size w')
    (first
     | exact ⟨c0,c1,hS.drew⟩
     | (go_split_ands; exact ⟨bkeep ‹_› hb,bkeep ‹_› hb,Sg.call ‹_› hb⟩)
     | (go_split_ands; exact ⟨‹_›,‹_›,‹_›⟩))
   (first
    | (go_at_call 122; ((with_reducible refine (CA _).out.mono ?_); rintro e w' ⟨rfl,hb⟩))
    | (go_at_call 122; ((with_reducible refine (CB _).out.mono ?_); rintro e w' ⟨rfl,hb⟩)))
  all_goals
   (go_wp2_with fail)
   go_meet
   go_split_ands
   exact ⟨rfl,rfl,‹_›⟩
 case rest =>
  clear hS c0 c1 CA CB
  obtain ⟨rfl,rfl,hS⟩ := hcut
  obtain ⟨c0,c1⟩ := id hS.1
  go_upto_region 14 with fail
  go_region_held3 (fun w' => w'.cell? ⟨w1.heap.size,0,none⟩ = some (.int .i64 8) ∧ w'.cell? ⟨w1.heap.size,1,none⟩ = some (.int .i64 23) ∧ Sg 8 23 w w1.heap.size w')
   (first
    | exact ⟨c0,c1,hS.drew⟩
    | (go_split_ands; exact ⟨bkeep ‹_› hb,bkeep ‹_› hb,Sg.call ‹_› hb⟩)
    | (go_split_ands; exact ⟨‹_›,‹_›,‹_›⟩))
   (first
    | (go_at_call 130; ((with_reducible refine (SC _).out.mono ?_); rintro e w' ⟨rfl,hb⟩))
    | (go_at_call 135; ((with_reducible refine (GC _).out.mono ?_); rintro e w' ⟨rfl,hb⟩)))
  all_goals
   go_wp2
   go_ret2
   go_split_ands
   exact ⟨rfl,(‹Sg 8 23 w w1.heap.size _›).2.2⟩
end Go.Proofs.YtbbmbhcbncenaaaGreatDoor.Fl
