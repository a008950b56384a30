/-
  FApi, FSumMath, FPartsMath: merged, what the law does not reach left out (each text says what it holds where it lies in wip). No condition.
-/
import Derived.Test.YtbbmbhcbncenaaaGreatDoorG10
import Derived.Test.YtbbmbhcbncenaaaGreatDoorG11
import Derived.Deep.RegionWith
import Derived.Test.YtbbmbhcbncenaaaGreatDoorG09
import Derived.Test.YtbbmbhcbncenaaaGreatDoorG01
set_option linter.unusedSimpArgs false
set_option linter.unusedVariables false
set_option maxRecDepth 100000
namespace Go.Proofs.YtbbmbhcbncenaaaGreatDoor.Fl
open Go.RowKit
def Sg (E P : Int) (w : World) (g : Nat) (W : World) : Prop := Fb E P g W ∧ w.heap.size ≤ g ∧ Below w.heap.size w W
theorem Sg.call {E P : Int} {w W W' : World} {g : Nat} (h : Sg E P w g W) (hb : Below W.heap.size W W') : Sg E P w g W' := ⟨h.1.call hb,h.2.1,bnext h.2.2 hb⟩
theorem Sg.drew {E P : Int} {w W : World} {g : Nat} (h : Sg E P w g W) : Sg E P w g W.drew := ⟨h.1,h.2.1,h.2.2.drew⟩
theorem Sg.drewN {E P : Int} {w W : World} {g : Nat} (h : Sg E P w g W) (n : Nat) : Sg E P w g (W.drewN n) := ⟨h.1,h.2.1,below_drewN h.2.2 n⟩
theorem Sg.alloc {E P : Int} {w W : World} {g : Nat} (h : Sg E P w g W) (o : Obj) : Sg E P w g (W.alloc o) := h.call (ball W o)
theorem Sg.lt {E P : Int} {w W : World} {g : Nat} (h : Sg E P w g W) : g < W.heap.size := h.1.lt
theorem Sg.new (E P : Int) {w w1 : World} (hb : Below w.heap.size w w1) : Sg E P w w1.heap.size (w1.alloc (.cells #[.int .i64 E,.int .i64 P] 114)) := ⟨Fb.new E P w1,hb.size,balloc hb _⟩
def relI (op : Nat) (x y : Int) : Bool :=
 if op = 1 then x == y else if op = 2 then x != y else if op = 3 then decide (x < y) else if op = 4 then decide (y < x) else if op = 5 then decide (x ≤ y) else decide (y ≤ x)
def relW (SB INF op a b : Nat) : Bool := if INF < a % SB ∨ INF < b % SB then op == 2 else relI op (rankOf SB a) (rankOf SB b)
theorem Kind_32 (a : Nat) (ha : a < 18446744073709551616) (w : World) : Calls Tryz.prog 142 #[.int .i64 32,.int .u64 a] w fun e w' => e = .returned (.int .i64 ((kindOf 2139095040 (a % 4294967296 % 2147483648) : Nat) : Int)) ∧ Below w.heap.size w w' := by
 have HC := fun w => hid (cut_32 a ha w)
 have HK := fun w => hid (kind_32 (a % 4294967296) (by omega) w)
 obtain ⟨k,hk⟩ : ∃ k : Nat,k = kindOf 2139095040 (a % 4294967296 % 2147483648) := ⟨_,rfl⟩
 obtain ⟨c,hc⟩ : ∃ c : Nat,c = a % 4294967296 := ⟨_,rfl⟩
 rw [← hk] at HK ⊢
 rw [← hc] at HK HC
 clear hk hc
 go_enter Tryz.func142,Tryz.ntmps142
 go_wp2_with (first
  | (go_at_call 120; ((with_reducible refine (formatOf_32 _).mono ?_); rintro e w1 ⟨rfl,hb1⟩))
  | (go_at_call 121; ((with_reducible refine (known_32 _).mono ?_); rintro e w2 ⟨rfl,hb2⟩; have hS := (Sg.new 8 23 hb1).call hb2; obtain ⟨c0,c1⟩ := id hS.1)))
 go_region_held3 (fun w' => w'.cell? ⟨w1.heap.size,0,none⟩ = some (.int .i64 8) ∧ w'.cell? ⟨w1.heap.size,1,none⟩ = some (.int .i64 23) ∧ Sg 8 23 w w1.heap.size w')
  (first
   | exact ⟨c0,c1,hS.drew⟩
   | (go_split_ands; exact ⟨bkeep ‹_› hb,bkeep ‹_› hb,Sg.call ‹_› hb⟩)
   | (go_split_ands; exact ⟨‹_›,‹_›,‹_›⟩))
  (first
   | (go_at_call 122; ((with_reducible refine (HC _).out.mono ?_); rintro e w' ⟨rfl,hb⟩))
   | (go_at_call 157; ((with_reducible refine (HK _).out.mono ?_); rintro e w' ⟨rfl,hb⟩)))
 all_goals
  go_wp2
  go_ret
  go_split_ands
  exact ⟨rfl,(‹Sg 8 23 w w1.heap.size _›).2.2⟩
theorem Canonical_32 (w : World) : Calls Tryz.prog 166 #[.int .i64 32] w fun e w' => e = .returned (.int .u64 2143289344) ∧ Below w.heap.size w w' := by
 go_enter Tryz.func166,Tryz.ntmps166
 go_wp2_with (first
  | (go_at_call 120; ((with_reducible refine (formatOf_32 _).mono ?_); rintro e w1 ⟨rfl,hb1⟩))
  | (go_at_call 121; ((with_reducible refine (known_32 _).mono ?_); rintro e w2 ⟨rfl,hb2⟩; have hS := (Sg.new 8 23 hb1).call hb2; obtain ⟨c0,c1⟩ := id hS.1))
  | (go_at_call 158; ((with_reducible refine (canonical_32 _).mono ?_); rintro e w3 ⟨rfl,hb3⟩)))
 go_ret
 exact ⟨rfl,bnext hS.2.2 hb3⟩
theorem Round_32 (ng : Bool) (m : Nat) (hm : m < 18446744073709551616) (ex : Int) (he0 : -9223372036854775808 ≤ ex) (he1 : ex ≤ 9223372036854775807) (more : Bool) (w : World) :
  Calls Tryz.prog 165 #[.int .i64 32,.bool ng,.int .u64 m,.int .i64 ex,.bool more] w fun e w' => e = .returned (if more = true ∧ m < 288230376151711744 then .tuple #[.int .u64 0,.int .i64 1] else .tuple #[.int .u64 (((Ieee.single).word ng (rungR Ieee.single m ex more) : Nat) : Int),.int .i64 0]) ∧ Below w.heap.size w w' := by
 have HC := fun h w => hid (round_32 ng m hm ex he0 he1 more h w)
 obtain ⟨R,hR⟩ : ∃ R : Nat,R = (Ieee.single).word ng (rungR Ieee.single m ex more) := ⟨_,rfl⟩
 rw [← hR] at HC ⊢
 clear hR he0 he1
 cases more with
 | true =>
  by_cases hlo : m < 288230376151711744
  ·rw [if_pos ⟨rfl,hlo⟩]
   have h1 : decide ((m : Int) < 288230376151711744) = true := by simp; omega
   clear HC hlo
   go_enter Tryz.func165,Tryz.ntmps165
   go_wp2_with (first
    | (go_at_call 120; ((with_reducible refine (formatOf_32 _).mono ?_); rintro e w1 ⟨rfl,hb1⟩))
    | (go_at_call 121; ((with_reducible refine (known_32 _).mono ?_); rintro e w2 ⟨rfl,hb2⟩; have hS := (Sg.new 8 23 hb1).call hb2; obtain ⟨c0,c1⟩ := id hS.1)))
   go_ret2
   exact ⟨rfl,hS.2.2⟩
  ·rw [if_neg (fun h => hlo h.2)]
   have h1 : decide ((m : Int) < 288230376151711744) = false := by simp; omega
   have HC2 := HC (fun _ => by omega)
   clear HC hlo
   go_enter Tryz.func165,Tryz.ntmps165
   go_wp2_with (first
    | (go_at_call 120; ((with_reducible refine (formatOf_32 _).mono ?_); rintro e w1 ⟨rfl,hb1⟩))
    | (go_at_call 121; ((with_reducible refine (known_32 _).mono ?_); rintro e w2 ⟨rfl,hb2⟩; have hS := (Sg.new 8 23 hb1).call hb2; obtain ⟨c0,c1⟩ := id hS.1))
    | (go_at_call 161; ((with_reducible refine (HC2 _).out.mono ?_); rintro e w3 ⟨rfl,hb3⟩)))
   go_ret2
   exact ⟨rfl,bnext hS.2.2 hb3⟩
 | false =>
  rw [if_neg (fun h => by cases h.1)]
  have HC2 := HC (fun h => by cases h)
  clear HC
  go_enter Tryz.func165,Tryz.ntmps165
  go_wp2_with (first
   | (go_at_call 120; ((with_reducible refine (formatOf_32 _).mono ?_); rintro e w1 ⟨rfl,hb1⟩))
   | (go_at_call 121; ((with_reducible refine (known_32 _).mono ?_); rintro e w2 ⟨rfl,hb2⟩; have hS := (Sg.new 8 23 hb1).call hb2; obtain ⟨c0,c1⟩ := id hS.1))
   | (go_at_call 161; ((with_reducible refine (HC2 _).out.mono ?_); rintro e w3 ⟨rfl,hb3⟩)))
  go_ret2
  exact ⟨rfl,bnext hS.2.2 hb3⟩
set_option maxHeartbeats 1600000 in
theorem Rel_32 (op : Nat) (hop : op = 1 ∨ op = 2 ∨ op = 3 ∨ op = 4 ∨ op = 5 ∨ op = 6) (a b : Nat) (ha : a < 18446744073709551616) (hb : b < 18446744073709551616) (w : World) :
  Calls Tryz.prog 67 #[.int .i64 32,.int .i64 op,.int .u64 a,.int .u64 b] w fun e w' => e = .returned (.tuple #[.bool (relW 2147483648 2139095040 op (a % 4294967296) (b % 4294967296)),.int .i64 0]) ∧ Below w.heap.size w w' := by
 have CA := fun w => hid (cut_32 a ha w)
 have CB := fun w => hid (cut_32 b hb w)
 have HN := fun w => hid (anyNaN_32 (a % 4294967296) (b % 4294967296) (by omega) (by omega) w)
 have RA := fun w => hid (rank_32 (a % 4294967296) (by omega) w)
 have RB := fun w => hid (rank_32 (b % 4294967296) (by omega) w)
 have hrw : relW 2147483648 2139095040 op (a % 4294967296) (b % 4294967296) = if 2139095040 < a % 4294967296 % 2147483648 ∨ 2139095040 < b % 4294967296 % 2147483648 then op == 2 else relI op (rankOf 2147483648 (a % 4294967296)) (rankOf 2147483648 (b % 4294967296)) := rfl
 rw [hrw]
 clear hrw
 generalize a % 4294967296 = a1 at *
 generalize b % 4294967296 = b1 at *
 generalize rankOf 2147483648 a1 = x at *
 generalize rankOf 2147483648 b1 = y at *
 have o1 : decide ((op : Int) < 1) = false := by simp; omega
 have o2 : decide ((6 : Int) < (op : Int)) = false := by simp; omega
 clear ha
 by_cases hn : 2139095040 < a1 % 2147483648 ∨ 2139095040 < b1 % 2147483648
 ·rw [if_pos hn]
  rw [show decide (2139095040 < a1 % 2147483648 ∨ 2139095040 < b1 % 2147483648) = true by simp [hn]] at HN
  have ho : ((op : Int) == 2) = (op == 2) := Bool.eq_iff_iff.2 (by rw [beq_iff_eq,beq_iff_eq]; omega)
  clear hn hop RA RB hb
  go_enter Tryz.func67,Tryz.ntmps67
  go_wp2_with (first
   | (go_at_call 120; ((with_reducible refine (formatOf_32 _).mono ?_); rintro e w1 ⟨rfl,hb1⟩))
   | (go_at_call 121; ((with_reducible refine (known_32 _).mono ?_); rintro e w2 ⟨rfl,hb2⟩; have hS := (Sg.new 8 23 hb1).call hb2; obtain ⟨c0,c1⟩ := id hS.1)))
  go_cut [2,3] (fun s2 s3 wx => s2 = .int .u64 a1 ∧ s3 = .int .u64 b1 ∧ Sg 8 23 w w1.heap.size wx)
  case first =>
   go_region_held3 (fun w' => w'.cell? ⟨w1.heap.size,0,none⟩ = some (.int .i64 8) ∧ w'.cell? ⟨w1.heap.size,1,none⟩ = some (.int .i64 23) ∧ Sg 8 23 w w1.heap.size w')
     (first
      | exact ⟨c0,c1,hS.drew⟩
      | (go_split_ands; exact ⟨bkeep ‹_› hb,bkeep ‹_› hb,Sg.call ‹_› hb⟩)
      | (go_split_ands; exact ⟨‹_›,‹_›,‹_›⟩))
    (first
     | (go_at_call 122; ((with_reducible refine (CA _).out.mono ?_); rintro e w' ⟨rfl,hb⟩))
     | (go_at_call 122; ((with_reducible refine (CB _).out.mono ?_); rintro e w' ⟨rfl,hb⟩)))
   all_goals
    (go_wp2_with fail)
    go_meet
    go_split_ands
    exact ⟨rfl,rfl,‹_›⟩
  case rest =>
   clear hS c0 c1
   obtain ⟨rfl,rfl,hS⟩ := hcut
   obtain ⟨c0,c1⟩ := id hS.1
   go_wp2_with (go_at_call 123; ((with_reducible refine (HN _).out.mono ?_); rintro e w4 ⟨rfl,hb4⟩))
   go_ret2
   exact ⟨by first | rfl | rw [ho],bnext hS.2.2 hb4⟩
 ·rw [if_neg hn]
  rw [show decide (2139095040 < a1 % 2147483648 ∨ 2139095040 < b1 % 2147483648) = false by simp [hn]] at HN
  clear hn hb
  go_enter Tryz.func67,Tryz.ntmps67
  go_wp2_with (first
   | (go_at_call 120; ((with_reducible refine (formatOf_32 _).mono ?_); rintro e w1 ⟨rfl,hb1⟩))
   | (go_at_call 121; ((with_reducible refine (known_32 _).mono ?_); rintro e w2 ⟨rfl,hb2⟩; have hS := (Sg.new 8 23 hb1).call hb2; obtain ⟨c0,c1⟩ := id hS.1)))
  go_cut [2,3] (fun s2 s3 wx => s2 = .int .u64 a1 ∧ s3 = .int .u64 b1 ∧ Sg 8 23 w w1.heap.size wx)
  case first =>
   go_region_held3 (fun w' => w'.cell? ⟨w1.heap.size,0,none⟩ = some (.int .i64 8) ∧ w'.cell? ⟨w1.heap.size,1,none⟩ = some (.int .i64 23) ∧ Sg 8 23 w w1.heap.size w')
     (first
      | exact ⟨c0,c1,hS.drew⟩
      | (go_split_ands; exact ⟨bkeep ‹_› hb,bkeep ‹_› hb,Sg.call ‹_› hb⟩)
      | (go_split_ands; exact ⟨‹_›,‹_›,‹_›⟩))
    (first
     | (go_at_call 122; ((with_reducible refine (CA _).out.mono ?_); rintro e w' ⟨rfl,hb⟩))
     | (go_at_call 122; ((with_reducible refine (CB _).out.mono ?_); rintro e w' ⟨rfl,hb⟩)))
   all_goals
    (go_wp2_with fail)
    go_meet
    go_split_ands
    exact ⟨rfl,rfl,‹_›⟩
  case rest =>
   clear hS c0 c1
   obtain ⟨rfl,rfl,hS⟩ := hcut
   obtain ⟨c0,c1⟩ := id hS.1
   go_upto_region 7 with (go_at_call 123; ((with_reducible refine (HN _).out.mono ?_); rintro e w4 ⟨rfl,hb4⟩; replace hS := hS.call hb4; have c0 := hS.1.1; have c1 := hS.1.2))
   go_cut [11,12] (fun s2 s3 wx => s2 = .int .i64 x ∧ s3 = .int .i64 y ∧ Sg 8 23 w w1.heap.size wx)
   case first =>
    go_region_held3 (fun w' => w'.cell? ⟨w1.heap.size,0,none⟩ = some (.int .i64 8) ∧ w'.cell? ⟨w1.heap.size,1,none⟩ = some (.int .i64 23) ∧ Sg 8 23 w w1.heap.size w')
      (first
       | exact ⟨c0,c1,hS.drew⟩
       | (go_split_ands; exact ⟨bkeep ‹_› hb,bkeep ‹_› hb,Sg.call ‹_› hb⟩)
       | (go_split_ands; exact ⟨‹_›,‹_›,‹_›⟩))
     (first
      | (go_at_call 124; ((with_reducible refine (RA _).out.mono ?_); rintro e w' ⟨rfl,hb⟩))
      | (go_at_call 124; ((with_reducible refine (RB _).out.mono ?_); rintro e w' ⟨rfl,hb⟩)))
    all_goals
     (go_wp2_with fail)
     go_meet
     go_split_ands
     exact ⟨rfl,rfl,‹_›⟩
   case rest =>
    clear hS c0 c1
    obtain ⟨rfl,rfl,hS⟩ := hcut
    have HS := hid hS
    clear hS o1 o2
    rcases hop with rfl | rfl | rfl | rfl | rfl | rfl
    all_goals
     go_wp2
     go_ret2
     exact ⟨by simp [relI],HS.out.2.2⟩
theorem Parts_32_no (a : Nat) (ha : a < 18446744073709551616) (hf : 2139095040 ≤ a % 4294967296 % 2147483648) (w : World) :
  Calls Tryz.prog 167 #[.int .i64 32,.int .u64 a] w fun e w' => e = .returned (.tuple #[.bool false,.int .u64 0,.int .i64 0,.int .i64 1]) ∧ Below w.heap.size w w' := by
 have HC := fun w => hid (cut_32 a ha w)
 have HZ := fun w => hid (size_32 (a % 4294967296) (by omega) w)
 generalize a % 4294967296 = a1 at *
 obtain ⟨s,hs⟩ : ∃ s : Nat,s = a1 % 2147483648 := ⟨_,rfl⟩
 rw [← hs] at HZ hf
 have g1 : decide (2139095040 ≤ s) = true := by simp [hf]
 have g2 : decide ((2139095040 : Int) ≤ (s : Int)) = true := by simp; omega
 clear hs ha hf
 go_enter Tryz.func167,Tryz.ntmps167
 go_upto_region 5 with (first
  | (go_at_call 120; ((with_reducible refine (formatOf_32 _).mono ?_); rintro e w1 ⟨rfl,hb1⟩))
  | (go_at_call 121; ((with_reducible refine (known_32 _).mono ?_); rintro e w2 ⟨rfl,hb2⟩; have hS := (Sg.new 8 23 hb1).call hb2; obtain ⟨c0,c1⟩ := id hS.1))
  | (go_at_call 122; ((with_reducible refine (HC _).out.mono ?_); rintro e w3 ⟨rfl,hb3⟩; replace hS := hS.call hb3; clear c0 c1; obtain ⟨c0,c1⟩ := id hS.1)))
 go_cut [23] (fun s23 wx => s23 = .bool true ∧ Sg 8 23 w w1.heap.size wx)
 case first =>
  go_region_held3 (fun w' => w'.cell? ⟨w1.heap.size,0,none⟩ = some (.int .i64 8) ∧ w'.cell? ⟨w1.heap.size,1,none⟩ = some (.int .i64 23) ∧ Sg 8 23 w w1.heap.size w')
    (first
     | exact ⟨c0,c1,hS.drew⟩
     | (go_split_ands; exact ⟨bkeep ‹_› hb,bkeep ‹_› hb,Sg.call ‹_› hb⟩)
     | (go_split_ands; exact ⟨‹_›,‹_›,‹_›⟩))
   (first
    | (go_at_call 130; ((with_reducible refine (HZ _).out.mono ?_); rintro e w' ⟨rfl,hb⟩))
    | (go_at_call 174; ((with_reducible refine (infinity_32 _).mono ?_); rintro e w' ⟨rfl,hb⟩)))
  all_goals
   (go_wp2_with fail)
   go_meet
   go_split_ands
   exact ⟨by first | rfl | rw [g1] | rw [g2],‹_›⟩
 case rest =>
  clear hS c0 c1
  obtain ⟨rfl,hS⟩ := hcut
  go_wp2
  exact bodyPost_ret (v := .tuple #[.bool false,.int .u64 0,.int .i64 0,.int .i64 1]) (by simp [results,Tryz.results167,go_sem]) rfl ⟨rfl,hS.2.2⟩
theorem Parts_32 (a : Nat) (ha : a < 18446744073709551616) (hf : a % 4294967296 % 2147483648 < 2139095040) (w : World) :
  Calls Tryz.prog 167 #[.int .i64 32,.int .u64 a] w fun e w' => e = .returned (.tuple #[.bool (decide (2147483648 ≤ a % 4294967296)),.int .u64 ((pm 23 (a % 4294967296 % 2147483648) : Nat) : Int),.int .i64 (pe 23 (-149) (a % 4294967296 % 2147483648)),.int .i64 0]) ∧ Below w.heap.size w w' := by
 have HC := fun w => hid (cut_32 a ha w)
 have HZ := fun w => hid (size_32 (a % 4294967296) (by omega) w)
 have HP := fun w => hid (parts_32 (a % 4294967296) (by omega) w)
 generalize a % 4294967296 = a1 at *
 obtain ⟨n1,hn1⟩ : ∃ n1 : Bool,n1 = decide (2147483648 ≤ a1) := ⟨_,rfl⟩
 obtain ⟨m1,hm1⟩ : ∃ m1 : Nat,m1 = pm 23 (a1 % 2147483648) := ⟨_,rfl⟩
 obtain ⟨e1,he1⟩ : ∃ e1 : Int,e1 = pe 23 (-149) (a1 % 2147483648) := ⟨_,rfl⟩
 rw [← hn1,← hm1,← he1] at HP ⊢
 obtain ⟨s,hs⟩ : ∃ s : Nat,s = a1 % 2147483648 := ⟨_,rfl⟩
 rw [← hs] at HZ hf
 have g1 : decide (2139095040 ≤ s) = false := by simp; omega
 have g2 : decide ((2139095040 : Int) ≤ (s : Int)) = false := by simp; omega
 clear hs ha hf hn1 hm1 he1
 go_enter Tryz.func167,Tryz.ntmps167
 go_upto_region 5 with (first
  | (go_at_call 120; ((with_reducible refine (formatOf_32 _).mono ?_); rintro e w1 ⟨rfl,hb1⟩))
  | (go_at_call 121; ((with_reducible refine (known_32 _).mono ?_); rintro e w2 ⟨rfl,hb2⟩; have hS := (Sg.new 8 23 hb1).call hb2; obtain ⟨c0,c1⟩ := id hS.1))
  | (go_at_call 122; ((with_reducible refine (HC _).out.mono ?_); rintro e w3 ⟨rfl,hb3⟩; replace hS := hS.call hb3; clear c0 c1; obtain ⟨c0,c1⟩ := id hS.1)))
 go_cut [23] (fun s23 wx => s23 = .bool false ∧ Sg 8 23 w w1.heap.size wx)
 case first =>
  go_region_held3 (fun w' => w'.cell? ⟨w1.heap.size,0,none⟩ = some (.int .i64 8) ∧ w'.cell? ⟨w1.heap.size,1,none⟩ = some (.int .i64 23) ∧ Sg 8 23 w w1.heap.size w')
    (first
     | exact ⟨c0,c1,hS.drew⟩
     | (go_split_ands; exact ⟨bkeep ‹_› hb,bkeep ‹_› hb,Sg.call ‹_› hb⟩)
     | (go_split_ands; exact ⟨‹_›,‹_›,‹_›⟩))
   (first
    | (go_at_call 130; ((with_reducible refine (HZ _).out.mono ?_); rintro e w' ⟨rfl,hb⟩))
    | (go_at_call 174; ((with_reducible refine (infinity_32 _).mono ?_); rintro e w' ⟨rfl,hb⟩)))
  all_goals
   (go_wp2_with fail)
   go_meet
   go_split_ands
   exact ⟨by first | rfl | rw [g1] | rw [g2],‹_›⟩
 case rest =>
  clear hS c0 c1
  obtain ⟨rfl,hS⟩ := hcut
  obtain ⟨c0,c1⟩ := id hS.1
  go_upto_region 8 with (go_at_call 160; ((with_reducible refine (HP _).out.mono ?_); rintro e w4 ⟨rfl,hb4⟩; replace hS := hS.call hb4))
  obtain ⟨⟨x0,x1,x2⟩,-⟩ := Nb.new n1 m1 e1 w4
  have hB := (hS.alloc (.cells #[.bool n1,.int .u64 m1,.int .i64 e1] 153)).2.2
  go_quiet (fail)
  go_wp2
  exact bodyPost_ret (v := .tuple #[.bool n1,.int .u64 m1,.int .i64 e1,.int .i64 0]) (by simp [results,Tryz.results167,go_sem]) rfl ⟨rfl,below_drewN hB _⟩
theorem Kind_64 (a : Nat) (ha : a < 18446744073709551616) (w : World) : Calls Tryz.prog 142 #[.int .i64 64,.int .u64 a] w fun e w' => e = .returned (.int .i64 ((kindOf 9218868437227405312 (a % 18446744073709551616 % 9223372036854775808) : Nat) : Int)) ∧ Below w.heap.size w w' := by
 have HC := fun w => hid (cut_64 a ha w)
 have HK := fun w => hid (kind_64 (a % 18446744073709551616) (by omega) w)
 obtain ⟨k,hk⟩ : ∃ k : Nat,k = kindOf 9218868437227405312 (a % 18446744073709551616 % 9223372036854775808) := ⟨_,rfl⟩
 obtain ⟨c,hc⟩ : ∃ c : Nat,c = a % 18446744073709551616 := ⟨_,rfl⟩
 rw [← hk] at HK ⊢
 rw [← hc] at HK HC
 clear hk hc
 go_enter Tryz.func142,Tryz.ntmps142
 go_wp2_with (first
  | (go_at_call 120; ((with_reducible refine (formatOf_64 _).mono ?_); rintro e w1 ⟨rfl,hb1⟩))
  | (go_at_call 121; ((with_reducible refine (known_64 _).mono ?_); rintro e w2 ⟨rfl,hb2⟩; have hS := (Sg.new 11 52 hb1).call hb2; obtain ⟨c0,c1⟩ := id hS.1)))
 go_region_held3 (fun w' => w'.cell? ⟨w1.heap.size,0,none⟩ = some (.int .i64 11) ∧ w'.cell? ⟨w1.heap.size,1,none⟩ = some (.int .i64 52) ∧ Sg 11 52 w w1.heap.size w')
  (first
   | exact ⟨c0,c1,hS.drew⟩
   | (go_split_ands; exact ⟨bkeep ‹_› hb,bkeep ‹_› hb,Sg.call ‹_› hb⟩)
   | (go_split_ands; exact ⟨‹_›,‹_›,‹_›⟩))
  (first
   | (go_at_call 122; ((with_reducible refine (HC _).out.mono ?_); rintro e w' ⟨rfl,hb⟩))
   | (go_at_call 157; ((with_reducible refine (HK _).out.mono ?_); rintro e w' ⟨rfl,hb⟩)))
 all_goals
  go_wp2
  go_ret
  go_split_ands
  exact ⟨rfl,(‹Sg 11 52 w w1.heap.size _›).2.2⟩
theorem Canonical_64 (w : World) : Calls Tryz.prog 166 #[.int .i64 64] w fun e w' => e = .returned (.int .u64 9221120237041090560) ∧ Below w.heap.size w w' := by
 go_enter Tryz.func166,Tryz.ntmps166
 go_wp2_with (first
  | (go_at_call 120; ((with_reducible refine (formatOf_64 _).mono ?_); rintro e w1 ⟨rfl,hb1⟩))
  | (go_at_call 121; ((with_reducible refine (known_64 _).mono ?_); rintro e w2 ⟨rfl,hb2⟩; have hS := (Sg.new 11 52 hb1).call hb2; obtain ⟨c0,c1⟩ := id hS.1))
  | (go_at_call 158; ((with_reducible refine (canonical_64 _).mono ?_); rintro e w3 ⟨rfl,hb3⟩)))
 go_ret
 exact ⟨rfl,bnext hS.2.2 hb3⟩
theorem Round_64 (ng : Bool) (m : Nat) (hm : m < 18446744073709551616) (ex : Int) (he0 : -9223372036854775808 ≤ ex) (he1 : ex ≤ 9223372036854775807) (more : Bool) (w : World) :
  Calls Tryz.prog 165 #[.int .i64 64,.bool ng,.int .u64 m,.int .i64 ex,.bool more] w fun e w' => e = .returned (if more = true ∧ m < 288230376151711744 then .tuple #[.int .u64 0,.int .i64 1] else .tuple #[.int .u64 (((Ieee.double).word ng (rungR Ieee.double m ex more) : Nat) : Int),.int .i64 0]) ∧ Below w.heap.size w w' := by
 have HC := fun h w => hid (round_64 ng m hm ex he0 he1 more h w)
 obtain ⟨R,hR⟩ : ∃ R : Nat,R = (Ieee.double).word ng (rungR Ieee.double m ex more) := ⟨_,rfl⟩
 rw [← hR] at HC ⊢
 clear hR he0 he1
 cases more with
 | true =>
  by_cases hlo : m < 288230376151711744
  ·rw [if_pos ⟨rfl,hlo⟩]
   have h1 : decide ((m : Int) < 288230376151711744) = true := by simp; omega
   clear HC hlo
   go_enter Tryz.func165,Tryz.ntmps165
   go_wp2_with (first
    | (go_at_call 120; ((with_reducible refine (formatOf_64 _).mono ?_); rintro e w1 ⟨rfl,hb1⟩))
    | (go_at_call 121; ((with_reducible refine (known_64 _).mono ?_); rintro e w2 ⟨rfl,hb2⟩; have hS := (Sg.new 11 52 hb1).call hb2; obtain ⟨c0,c1⟩ := id hS.1)))
   go_ret2
   exact ⟨rfl,hS.2.2⟩
  ·rw [if_neg (fun h => hlo h.2)]
   have h1 : decide ((m : Int) < 288230376151711744) = false := by simp; omega
   have HC2 := HC (fun _ => by omega)
   clear HC hlo
   go_enter Tryz.func165,Tryz.ntmps165
   go_wp2_with (first
    | (go_at_call 120; ((with_reducible refine (formatOf_64 _).mono ?_); rintro e w1 ⟨rfl,hb1⟩))
    | (go_at_call 121; ((with_reducible refine (known_64 _).mono ?_); rintro e w2 ⟨rfl,hb2⟩; have hS := (Sg.new 11 52 hb1).call hb2; obtain ⟨c0,c1⟩ := id hS.1))
    | (go_at_call 161; ((with_reducible refine (HC2 _).out.mono ?_); rintro e w3 ⟨rfl,hb3⟩)))
   go_ret2
   exact ⟨rfl,bnext hS.2.2 hb3⟩
 | false =>
  rw [if_neg (fun h => by cases h.1)]
  have HC2 := HC (fun h => by cases h)
  clear HC
  go_enter Tryz.func165,Tryz.ntmps165
  go_wp2_with (first
   | (go_at_call 120; ((with_reducible refine (formatOf_64 _).mono ?_); rintro e w1 ⟨rfl,hb1⟩))
   | (go_at_call 121; ((with_reducible refine (known_64 _).mono ?_); rintro e w2 ⟨rfl,hb2⟩; have hS := (Sg.new 11 52 hb1).call hb2; obtain ⟨c0,c1⟩ := id hS.1))
   | (go_at_call 161; ((with_reducible refine (HC2 _).out.mono ?_); rintro e w3 ⟨rfl,hb3⟩)))
  go_ret2
  exact ⟨rfl,bnext hS.2.2 hb3⟩
set_option maxHeartbeats 1600000 in
theorem Rel_64 (op : Nat) (hop : op = 1 ∨ op = 2 ∨ op = 3 ∨ op = 4 ∨ op = 5 ∨ op = 6) (a b : Nat) (ha : a < 18446744073709551616) (hb : b < 18446744073709551616) (w : World) :
  Calls Tryz.prog 67 #[.int .i64 64,.int .i64 op,.int .u64 a,.int .u64 b] w fun e w' => e = .returned (.tuple #[.bool (relW 9223372036854775808 9218868437227405312 op (a % 18446744073709551616) (b % 18446744073709551616)),.int .i64 0]) ∧ Below w.heap.size w w' := by
 have CA := fun w => hid (cut_64 a ha w)
 have CB := fun w => hid (cut_64 b hb w)
 have HN := fun w => hid (anyNaN_64 (a % 18446744073709551616) (b % 18446744073709551616) (by omega) (by omega) w)
 have RA := fun w => hid (rank_64 (a % 18446744073709551616) (by omega) w)
 have RB := fun w => hid (rank_64 (b % 18446744073709551616) (by omega) w)
 have hrw : relW 9223372036854775808 9218868437227405312 op (a % 18446744073709551616) (b % 18446744073709551616) = if 9218868437227405312 < a % 18446744073709551616 % 9223372036854775808 ∨ 9218868437227405312 < b % 18446744073709551616 % 9223372036854775808 then op == 2 else relI op (rankOf 9223372036854775808 (a % 18446744073709551616)) (rankOf 9223372036854775808 (b % 18446744073709551616)) := rfl
 rw [hrw]
 clear hrw
 generalize a % 18446744073709551616 = a1 at *
 generalize b % 18446744073709551616 = b1 at *
 generalize rankOf 9223372036854775808 a1 = x at *
 generalize rankOf 9223372036854775808 b1 = y at *
 have o1 : decide ((op : Int) < 1) = false := by simp; omega
 have o2 : decide ((6 : Int) < (op : Int)) = false := by simp; omega
 clear ha
 by_cases hn : 9218868437227405312 < a1 % 9223372036854775808 ∨ 9218868437227405312 < b1 % 9223372036854775808
 ·rw [if_pos hn]
  rw [show decide (9218868437227405312 < a1 % 9223372036854775808 ∨ 9218868437227405312 < b1 % 9223372036854775808) = true by simp [hn]] at HN
  have ho : ((op : Int) == 2) = (op == 2) := Bool.eq_iff_iff.2 (by rw [beq_iff_eq,beq_iff_eq]; omega)
  clear hn hop RA RB hb
  go_enter Tryz.func67,Tryz.ntmps67
  go_wp2_with (first
   | (go_at_call 120; ((with_reducible refine (formatOf_64 _).mono ?_); rintro e w1 ⟨rfl,hb1⟩))
   | (go_at_call 121; ((with_reducible refine (known_64 _).mono ?_); rintro e w2 ⟨rfl,hb2⟩; have hS := (Sg.new 11 52 hb1).call hb2; obtain ⟨c0,c1⟩ := id hS.1)))
  go_cut [2,3] (fun s2 s3 wx => s2 = .int .u64 a1 ∧ s3 = .int .u64 b1 ∧ Sg 11 52 w w1.heap.size wx)
  case first =>
   go_region_held3 (fun w' => w'.cell? ⟨w1.heap.size,0,none⟩ = some (.int .i64 11) ∧ w'.cell? ⟨w1.heap.size,1,none⟩ = some (.int .i64 52) ∧ Sg 11 52 w w1.heap.size w')
     (first
      | exact ⟨c0,c1,hS.drew⟩
      | (go_split_ands; exact ⟨bkeep ‹_› hb,bkeep ‹_› hb,Sg.call ‹_› hb⟩)
      | (go_split_ands; exact ⟨‹_›,‹_›,‹_›⟩))
    (first
     | (go_at_call 122; ((with_reducible refine (CA _).out.mono ?_); rintro e w' ⟨rfl,hb⟩))
     | (go_at_call 122; ((with_reducible refine (CB _).out.mono ?_); rintro e w' ⟨rfl,hb⟩)))
   all_goals
    (go_wp2_with fail)
    go_meet
    go_split_ands
    exact ⟨rfl,rfl,‹_›⟩
  case rest =>
   clear hS c0 c1
   obtain ⟨rfl,rfl,hS⟩ := hcut
   obtain ⟨c0,c1⟩ := id hS.1
   go_wp2_with (go_at_call 123; ((with_reducible refine (HN _).out.mono ?_); rintro e w4 ⟨rfl,hb4⟩))
   go_ret2
   exact ⟨by first | rfl | rw [ho],bnext hS.2.2 hb4⟩
 ·rw [if_neg hn]
  rw [show decide (9218868437227405312 < a1 % 9223372036854775808 ∨ 9218868437227405312 < b1 % 9223372036854775808) = false by simp [hn]] at HN
  clear hn hb
  go_enter Tryz.func67,Tryz.ntmps67
  go_wp2_with (first
   | (go_at_call 120; ((with_reducible refine (formatOf_64 _).mono ?_); rintro e w1 ⟨rfl,hb1⟩))
   | (go_at_call 121; ((with_reducible refine (known_64 _).mono ?_); rintro e w2 ⟨rfl,hb2⟩; have hS := (Sg.new 11 52 hb1).call hb2; obtain ⟨c0,c1⟩ := id hS.1)))
  go_cut [2,3] (fun s2 s3 wx => s2 = .int .u64 a1 ∧ s3 = .int .u64 b1 ∧ Sg 11 52 w w1.heap.size wx)
  case first =>
   go_region_held3 (fun w' => w'.cell? ⟨w1.heap.size,0,none⟩ = some (.int .i64 11) ∧ w'.cell? ⟨w1.heap.size,1,none⟩ = some (.int .i64 52) ∧ Sg 11 52 w w1.heap.size w')
     (first
      | exact ⟨c0,c1,hS.drew⟩
      | (go_split_ands; exact ⟨bkeep ‹_› hb,bkeep ‹_› hb,Sg.call ‹_› hb⟩)
      | (go_split_ands; exact ⟨‹_›,‹_›,‹_›⟩))
    (first
     | (go_at_call 122; ((with_reducible refine (CA _).out.mono ?_); rintro e w' ⟨rfl,hb⟩))
     | (go_at_call 122; ((with_reducible refine (CB _).out.mono ?_); rintro e w' ⟨rfl,hb⟩)))
   all_goals
    (go_wp2_with fail)
    go_meet
    go_split_ands
    exact ⟨rfl,rfl,‹_›⟩
  case rest =>
   clear hS c0 c1
   obtain ⟨rfl,rfl,hS⟩ := hcut
   obtain ⟨c0,c1⟩ := id hS.1
   go_upto_region 7 with (go_at_call 123; ((with_reducible refine (HN _).out.mono ?_); rintro e w4 ⟨rfl,hb4⟩; replace hS := hS.call hb4; have c0 := hS.1.1; have c1 := hS.1.2))
   go_cut [11,12] (fun s2 s3 wx => s2 = .int .i64 x ∧ s3 = .int .i64 y ∧ Sg 11 52 w w1.heap.size wx)
   case first =>
    go_region_held3 (fun w' => w'.cell? ⟨w1.heap.size,0,none⟩ = some (.int .i64 11) ∧ w'.cell? ⟨w1.heap.size,1,none⟩ = some (.int .i64 52) ∧ Sg 11 52 w w1.heap.size w')
      (first
       | exact ⟨c0,c1,hS.drew⟩
       | (go_split_ands; exact ⟨bkeep ‹_› hb,bkeep ‹_› hb,Sg.call ‹_› hb⟩)
       | (go_split_ands; exact ⟨‹_›,‹_›,‹_›⟩))
     (first
      | (go_at_call 124; ((with_reducible refine (RA _).out.mono ?_); rintro e w' ⟨rfl,hb⟩))
      | (go_at_call 124; ((with_reducible refine (RB _).out.mono ?_); rintro e w' ⟨rfl,hb⟩)))
    all_goals
     (go_wp2_with fail)
     go_meet
     go_split_ands
     exact ⟨rfl,rfl,‹_›⟩
   case rest =>
    clear hS c0 c1
    obtain ⟨rfl,rfl,hS⟩ := hcut
    have HS := hid hS
    clear hS o1 o2
    rcases hop with rfl | rfl | rfl | rfl | rfl | rfl
    all_goals
     go_wp2
     go_ret2
     exact ⟨by simp [relI],HS.out.2.2⟩
theorem Parts_64_no (a : Nat) (ha : a < 18446744073709551616) (hf : 9218868437227405312 ≤ a % 18446744073709551616 % 9223372036854775808) (w : World) :
  Calls Tryz.prog 167 #[.int .i64 64,.int .u64 a] w fun e w' => e = .returned (.tuple #[.bool false,.int .u64 0,.int .i64 0,.int .i64 1]) ∧ Below w.heap.size w w' := by
 have HC := fun w => hid (cut_64 a ha w)
 have HZ := fun w => hid (size_64 (a % 18446744073709551616) (by omega) w)
 generalize a % 18446744073709551616 = a1 at *
 obtain ⟨s,hs⟩ : ∃ s : Nat,s = a1 % 9223372036854775808 := ⟨_,rfl⟩
 rw [← hs] at HZ hf
 have g1 : decide (9218868437227405312 ≤ s) = true := by simp [hf]
 have g2 : decide ((9218868437227405312 : Int) ≤ (s : Int)) = true := by simp; omega
 clear hs ha hf
 go_enter Tryz.func167,Tryz.ntmps167
 go_upto_region 5 with (first
  | (go_at_call 120; ((with_reducible refine (formatOf_64 _).mono ?_); rintro e w1 ⟨rfl,hb1⟩))
  | (go_at_call 121; ((with_reducible refine (known_64 _).mono ?_); rintro e w2 ⟨rfl,hb2⟩; have hS := (Sg.new 11 52 hb1).call hb2; obtain ⟨c0,c1⟩ := id hS.1))
  | (go_at_call 122; ((with_reducible refine (HC _).out.mono ?_); rintro e w3 ⟨rfl,hb3⟩; replace hS := hS.call hb3; clear c0 c1; obtain ⟨c0,c1⟩ := id hS.1)))
 go_cut [23] (fun s23 wx => s23 = .bool true ∧ Sg 11 52 w w1.heap.size wx)
 case first =>
  go_region_held3 (fun w' => w'.cell? ⟨w1.heap.size,0,none⟩ = some (.int .i64 11) ∧ w'.cell? ⟨w1.heap.size,1,none⟩ = some (.int .i64 52) ∧ Sg 11 52 w w1.heap.size w')
    (first
     | exact ⟨c0,c1,hS.drew⟩
     | (go_split_ands; exact ⟨bkeep ‹_› hb,bkeep ‹_› hb,Sg.call ‹_› hb⟩)
     | (go_split_ands; exact ⟨‹_›,‹_›,‹_›⟩))
   (first
    | (go_at_call 130; ((with_reducible refine (HZ _).out.mono ?_); rintro e w' ⟨rfl,hb⟩))
    | (go_at_call 174; ((with_reducible refine (infinity_64 _).mono ?_); rintro e w' ⟨rfl,hb⟩)))
  all_goals
   (go_wp2_with fail)
   go_meet
   go_split_ands
   exact ⟨by first | rfl | rw [g1] | rw [g2],‹_›⟩
 case rest =>
  clear hS c0 c1
  obtain ⟨rfl,hS⟩ := hcut
  go_wp2
  exact bodyPost_ret (v := .tuple #[.bool false,.int .u64 0,.int .i64 0,.int .i64 1]) (by simp [results,Tryz.results167,go_sem]) rfl ⟨rfl,hS.2.2⟩
theorem Parts_64 (a : Nat) (ha : a < 18446744073709551616) (hf : a % 18446744073709551616 % 9223372036854775808 < 9218868437227405312) (w : World) :
  Calls Tryz.prog 167 #[.int .i64 64,.int .u64 a] w fun e w' => e = .returned (.tuple #[.bool (decide (9223372036854775808 ≤ a % 18446744073709551616)),.int .u64 ((pm 52 (a % 18446744073709551616 % 9223372036854775808) : Nat) : Int),.int .i64 (pe 52 (-1074) (a % 18446744073709551616 % 9223372036854775808)),.int .i64 0]) ∧ Below w.heap.size w w' := by
 have HC := fun w => hid (cut_64 a ha w)
 have HZ := fun w => hid (size_64 (a % 18446744073709551616) (by omega) w)
 have HP := fun w => hid (parts_64 (a % 18446744073709551616) (by omega) w)
 generalize a % 18446744073709551616 = a1 at *
 obtain ⟨n1,hn1⟩ : ∃ n1 : Bool,n1 = decide (9223372036854775808 ≤ a1) := ⟨_,rfl⟩
 obtain ⟨m1,hm1⟩ : ∃ m1 : Nat,m1 = pm 52 (a1 % 9223372036854775808) := ⟨_,rfl⟩
 obtain ⟨e1,he1⟩ : ∃ e1 : Int,e1 = pe 52 (-1074) (a1 % 9223372036854775808) := ⟨_,rfl⟩
 rw [← hn1,← hm1,← he1] at HP ⊢
 obtain ⟨s,hs⟩ : ∃ s : Nat,s = a1 % 9223372036854775808 := ⟨_,rfl⟩
 rw [← hs] at HZ hf
 have g1 : decide (9218868437227405312 ≤ s) = false := by simp; omega
 have g2 : decide ((9218868437227405312 : Int) ≤ (s : Int)) = false := by simp; omega
 clear hs ha hf hn1 hm1 he1
 go_enter Tryz.func167,Tryz.ntmps167
 go_upto_region 5 with (first
  | (go_at_call 120; ((with_reducible refine (formatOf_64 _).mono ?_); rintro e w1 ⟨rfl,hb1⟩))
  | (go_at_call 121; ((with_reducible refine (known_64 _).mono ?_); rintro e w2 ⟨rfl,hb2⟩; have hS := (Sg.new 11 52 hb1).call hb2; obtain ⟨c0,c1⟩ := id hS.1))
  | (go_at_call 122; ((with_reducible refine (HC _).out.mono ?_); rintro e w3 ⟨rfl,hb3⟩; replace hS := hS.call hb3; clear c0 c1; obtain ⟨c0,c1⟩ := id hS.1)))
 go_cut [23] (fun s23 wx => s23 = .bool false ∧ Sg 11 52 w w1.heap.size wx)
 case first =>
  go_region_held3 (fun w' => w'.cell? ⟨w1.heap.size,0,none⟩ = some (.int .i64 11) ∧ w'.cell? ⟨w1.heap.size,1,none⟩ = some (.int .i64 52) ∧ Sg 11 52 w w1.heap.size w')
    (first
     | exact ⟨c0,c1,hS.drew⟩
     | (go_split_ands; exact ⟨bkeep ‹_› hb,bkeep ‹_› hb,Sg.call ‹_› hb⟩)
     | (go_split_ands; exact ⟨‹_›,‹_›,‹_›⟩))
   (first
    | (go_at_call 130; ((with_reducible refine (HZ _).out.mono ?_); rintro e w' ⟨rfl,hb⟩))
    | (go_at_call 174; ((with_reducible refine (infinity_64 _).mono ?_); rintro e w' ⟨rfl,hb⟩)))
  all_goals
   (go_wp2_with fail)
   go_meet
   go_split_ands
   exact ⟨by first | rfl | rw [g1] | rw [g2],‹_›⟩
 case rest =>
  clear hS c0 c1
  obtain ⟨rfl,hS⟩ := hcut
  obtain ⟨c0,c1⟩ := id hS.1
  go_upto_region 8 with (go_at_call 160; ((with_reducible refine (HP _).out.mono ?_); rintro e w4 ⟨rfl,hb4⟩; replace hS := hS.call hb4))
  obtain ⟨⟨x0,x1,x2⟩,-⟩ := Nb.new n1 m1 e1 w4
  have hB := (hS.alloc (.cells #[.bool n1,.int .u64 m1,.int .i64 e1] 153)).2.2
  go_quiet (fail)
  go_wp2
  exact bodyPost_ret (v := .tuple #[.bool n1,.int .u64 m1,.int .i64 e1,.int .i64 0]) (by simp [results,Tryz.results167,go_sem]) rfl ⟨rfl,below_drewN hB _⟩
end Go.Proofs.YtbbmbhcbncenaaaGreatDoor.Fl
namespace Go.Proofs.YtbbmbhcbncenaaaGreatDoor.Fl
open Ieee
def sumN (f : Format) (room : Nat) (sx sy : Bool) (mx my : Nat) (ex : Int) (ap : Nat) : Nat :=
 let Y := my * 2 ^ room
 let more := decide (Y % 2 ^ ap ≠ 0)
 if sx = sy then f.word sx (rungR f (mx * 2 ^ room + Y / 2 ^ ap) (ex - room) more)
 else
  let M := mx * 2 ^ room - Y / 2 ^ ap - more.toNat
  f.word (if M = 0 then false else sx) (rungR f M (ex - room) more)
end Go.Proofs.YtbbmbhcbncenaaaGreatDoor.Fl
namespace Go.Proofs.YtbbmbhcbncenaaaGreatDoor.Fl
open Ieee
theorem pe_eq (P : Nat) (low : Int) (s : Nat) : pe P low s = low + ((s / 2 ^ P - 1 : Nat) : Int) := by
 unfold pe; split
 ·rename_i h; rw [h]; simp
 ·rfl
theorem pm_lt (P s : Nat) : pm P s < 2 ^ (P + 1) := by
 have hp : 0 < 2 ^ P := Nat.two_pow_pos P
 have hm := Nat.mod_lt s hp
 have e : (2 : Nat) ^ (P + 1) = 2 * 2 ^ P := by rw [Nat.pow_succ]; omega
 have hdm := Nat.div_add_mod s (2 ^ P)
 unfold pm; split
 ·rename_i h; rw [h] at hdm; simp at hdm; omega
 ·omega
theorem pm_ge (P s : Nat) (h : s / 2 ^ P ≠ 0) : 2 ^ P ≤ pm P s := by
 unfold pm; rw [if_neg h]; omega
theorem pm_small (P s : Nat) (h : s / 2 ^ P ≤ 1) : pm P s = s := by
 have hdm := Nat.div_add_mod s (2 ^ P)
 unfold pm; split
 ·rfl
 ·rename_i h0
  have h1 : s / 2 ^ P = 1 := by generalize s / 2 ^ P = q at *; omega
  rw [h1] at hdm; omega
theorem parts_ord (P : Nat) (low : Int) {s1 s2 : Nat} (h : s2 ≤ s1) :
  ∃ ap : Nat,pe P low s2 + ap = pe P low s1 ∧ pm P s2 ≤ pm P s1 * 2 ^ ap ∧ (ap ≠ 0 → 2 ^ P ≤ pm P s1) ∧ ap ≤ s1 / 2 ^ P := by
 have hp : 0 < 2 ^ P := Nat.two_pow_pos P
 have hq : s2 / 2 ^ P ≤ s1 / 2 ^ P := Nat.div_le_div_right h
 refine ⟨(s1 / 2 ^ P - 1) - (s2 / 2 ^ P - 1),by rw [pe_eq,pe_eq]; generalize s1 / 2 ^ P = q1 at *; generalize s2 / 2 ^ P = q2 at *; omega,?_,fun h0 => pm_ge P s1 (by generalize s1 / 2 ^ P = q1 at *; omega),by generalize s1 / 2 ^ P = q1 at *; omega⟩
 by_cases h0 : (s1 / 2 ^ P - 1) - (s2 / 2 ^ P - 1) = 0
 ·rw [h0,Nat.pow_zero,Nat.mul_one]
  by_cases h1 : s1 / 2 ^ P ≤ 1
  ·rw [pm_small P s1 h1,pm_small P s2 (Nat.le_trans hq h1)]; exact h
  ·have he : s2 / 2 ^ P = s1 / 2 ^ P := by generalize s1 / 2 ^ P = q1 at *; generalize s2 / 2 ^ P = q2 at *; omega
   have d1 := Nat.div_add_mod s1 (2 ^ P)
   have d2 := Nat.div_add_mod s2 (2 ^ P)
   rw [he] at d2
   have h2 : ¬ s1 / 2 ^ P = 0 := fun h => h1 (by rw [h]; decide)
   unfold pm
   rw [if_neg h2,if_neg (by rw [he]; exact h2)]
   omega
 ·have h1 := pm_ge P s1 (by generalize s1 / 2 ^ P = q1 at *; omega)
  have h2 := pm_lt P s2
  have e : (2 : Nat) ^ (P + 1) = 2 ^ P * 2 ^ 1 := Nat.pow_add ..
  have h3 : 2 ^ P * 2 ^ 1 ≤ pm P s1 * 2 ^ ((s1 / 2 ^ P - 1) - (s2 / 2 ^ P - 1)) := Nat.mul_le_mul h1 (Nat.pow_le_pow_right (by decide) (by omega))
  omega
theorem read_fin {f : Format} {a SB P : Nat} {low : Int} (hSB : f.signWeight = SB) (hP : f.fractionBits = P) (hlow : f.leastPlace = low) (ha : a < 2 * SB) (h : a % SB < f.infRung) :
  f.read a = .number (decide (SB ≤ a)) (pm P (a % SB)) (pe P low (a % SB)) := by
 subst hSB hP hlow
 have hp : 0 < 2 ^ f.fractionBits := Nat.two_pow_pos _
 have hsg : (a / f.signWeight % 2 == 1) = decide (f.signWeight ≤ a) := by
  by_cases hc : f.signWeight ≤ a
  ·have : a / f.signWeight = 1 := by rw [Nat.div_eq_iff (by omega)]; omega
   simp [this,hc]
  ·have : a / f.signWeight = 0 := Nat.div_eq_of_lt (by omega)
   simp [this,hc]
 unfold Format.read
 simp only [hsg]
 by_cases hb : a % f.signWeight < f.binade
 ·rw [if_pos hb]
  have h0 : a % f.signWeight / 2 ^ f.fractionBits = 0 := Nat.div_eq_of_lt hb
  unfold pm pe; rw [if_pos h0,if_pos h0]
 ·rw [if_neg hb,if_pos h]
  have h0 : ¬ a % f.signWeight / 2 ^ f.fractionBits = 0 := by
   intro h0
   rcases Nat.lt_or_ge (a % f.signWeight) (2 ^ f.fractionBits) with h2 | h2
   ·exact hb h2
   ·have := Nat.div_pos h2 hp; omega
  unfold pm pe; rw [if_neg h0,if_neg h0,Nat.add_comm]; rfl
theorem read_inf {f : Format} {a SB : Nat} (hSB : f.signWeight = SB) (ha : a < 2 * SB) (hb : f.binade ≤ f.infRung) (h : a % SB = f.infRung) :
  f.read a = .infinity (decide (SB ≤ a)) := by
 subst hSB
 have hsg : (a / f.signWeight % 2 == 1) = decide (f.signWeight ≤ a) := by
  by_cases hc : f.signWeight ≤ a
  ·have : a / f.signWeight = 1 := by rw [Nat.div_eq_iff (by omega)]; omega
   simp [this,hc]
  ·have : a / f.signWeight = 0 := Nat.div_eq_of_lt (by omega)
   simp [this,hc]
 unfold Format.read
 simp only [hsg]
 rw [if_neg (by omega),if_neg (by omega),if_pos h]
theorem read_nan {f : Format} {a SB : Nat} (hSB : f.signWeight = SB) (hb : f.binade ≤ f.infRung) (h : f.infRung < a % SB) :
  ∃ s t,f.read a = .nan s t := by
 subst hSB
 unfold Format.read
 simp only []
 rw [if_neg (by omega),if_neg (by omega),if_neg (by omega)]
 exact ⟨_,_,rfl⟩
end Go.Proofs.YtbbmbhcbncenaaaGreatDoor.Fl
