/-
  RBeh1, RBeh2: merged, what the law does not reach left out (each text says what it holds where it lies in wip). No condition.
-/
import Derived.Test.YtjgeedgphcjhoaaGreatC04
import Derived.Deep.RegionHeld3
set_option linter.unusedSimpArgs false
set_option linter.unusedVariables false
set_option maxRecDepth 100000
namespace Go.Proofs.YtjgeedgphcjhoaaGreat
open Go.RowKit
set_option maxHeartbeats 4000000 in
theorem beh_0 (op a b : Int) (n h : Nat) (l : List Int) (pl pb pe : Option Addr) (cl nb cb ne ce : Nat) (ot : Bool) (B : Nat) (w : World) (hB : B ≤ w.heap.size) (hl : LI B w (.slice pl l.length cl) l) (hnl : l.length + 200 ≤ 1000000000000) (hnn : n < 18446744073709551616) (hh : h < 18446744073709551616) :
  Calls Tryz.prog 232 #[.agg #[.int .i64 op,.int .i64 a,.int .i64 b,.int .u64 (n : Nat),.int .u64 (h : Nat),.slice pl l.length cl,.slice pb nb cb,.slice pe ne ce,.bool ot],.int .i64 0] w (BO w ([])) := by
 have HX0 := hid (CA.new w #[.int .i64 op,.int .i64 a,.int .i64 b,.int .u64 (n : Nat),.int .u64 (h : Nat),.slice pl l.length cl,.slice pb nb cb,.slice pe ne ce,.bool ot] 39)
 have HBX := hid ((Below.refl w.heap.size w).alloc (Nat.le_refl _) (.cells #[.int .i64 op,.int .i64 a,.int .i64 b,.int .u64 (n : Nat),.int .u64 (h : Nat),.slice pl l.length cl,.slice pb nb cb,.slice pe ne ce,.bool ot] 39))
 have HRX := hid ((RF.refl w.heap.size w).alloc (.cells #[.int .i64 op,.int .i64 a,.int .i64 b,.int .u64 (n : Nat),.int .u64 (h : Nat),.slice pl l.length cl,.slice pb nb cb,.slice pe ne ce,.bool ot] 39))
 have y0 := HX0.out.at (k := 0) (v := .int .i64 op) rfl
 have y1 := HX0.out.at (k := 1) (v := .int .i64 a) rfl
 have y2 := HX0.out.at (k := 2) (v := .int .i64 b) rfl
 have y3 := HX0.out.at (k := 3) (v := .int .u64 (n : Nat)) rfl
 have y4 := HX0.out.at (k := 4) (v := .int .u64 (h : Nat)) rfl
 have y5 := HX0.out.at (k := 5) (v := .slice pl l.length cl) rfl
 have y6 := HX0.out.at (k := 6) (v := .slice pb nb cb) rfl
 have y7 := HX0.out.at (k := 7) (v := .slice pe ne ce) rfl
 have y8 := HX0.out.at (k := 8) (v := .bool ot) rfl
 have hLI : ∀ W,Below B w W → LI B W (.slice pl l.length cl) l := fun W hW => hl.below hW
 have HLI := fun W (hW : Below w.heap.size w W) => hid (hLI W (hW.mono hB))
 have Hn := hid hnn
 have Hh := hid hh
 have HBB := hid hB
 have HSZ : Hid (w.heap.size ≤ w.heap.size) := Nat.le_refl _
 have HLN := hid hnl
 have q1 := uI_len a
 have q2 := uI_len b
 have q3 := usL_len l
 have q5 := uI_len l.length
 have HS0 : Hid (RF w.heap.size w (w.alloc (.cells #[.int .i64 op,.int .i64 a,.int .i64 b,.int .u64 (n : Nat),.int .u64 (h : Nat),.slice pl l.length cl,.slice pb nb cb,.slice pe ne ce,.bool ot] 39)) ∧ CA w.heap.size #[.int .i64 op,.int .i64 a,.int .i64 b,.int .u64 (n : Nat),.int .u64 (h : Nat),.slice pl l.length cl,.slice pb nb cb,.slice pe ne ce,.bool ot] 39 (w.alloc (.cells #[.int .i64 op,.int .i64 a,.int .i64 b,.int .u64 (n : Nat),.int .u64 (h : Nat),.slice pl l.length cl,.slice pb nb cb,.slice pe ne ce,.bool ot] 39))) := ⟨HRX.out,HX0.out⟩
 clear q1 q2 q3 q5 hl hnl hnn hh hB hLI
 go_enter Tryz.func232,Tryz.ntmps232
 go_wp2
 go_ret
 exact ⟨_,rfl,own_nil _ _,HBX.out⟩
set_option maxHeartbeats 4000000 in
theorem beh_2 (K : Int) (hK : K = 2 ∨ K = 4 ∨ K = 7 ∨ K = 8 ∨ K = 9 ∨ K = 18 ∨ K = 21) (op a b : Int) (n h : Nat) (l : List Int) (pl pb pe : Option Addr) (cl nb cb ne ce : Nat) (ot : Bool) (B : Nat) (w : World) (hB : B ≤ w.heap.size) (hl : LI B w (.slice pl l.length cl) l) (hnl : l.length + 200 ≤ 1000000000000) (hnn : n < 18446744073709551616) (hh : h < 18446744073709551616) :
  Calls Tryz.prog 232 #[.agg #[.int .i64 op,.int .i64 a,.int .i64 b,.int .u64 (n : Nat),.int .u64 (h : Nat),.slice pl l.length cl,.slice pb nb cb,.slice pe ne ce,.bool ot],.int .i64 K] w (BO w (uI a)) := by
 rcases hK with rfl | rfl | rfl | rfl | rfl | rfl | rfl
 all_goals
  have HX0 := hid (CA.new w #[.int .i64 op,.int .i64 a,.int .i64 b,.int .u64 (n : Nat),.int .u64 (h : Nat),.slice pl l.length cl,.slice pb nb cb,.slice pe ne ce,.bool ot] 39)
  have HBX := hid ((Below.refl w.heap.size w).alloc (Nat.le_refl _) (.cells #[.int .i64 op,.int .i64 a,.int .i64 b,.int .u64 (n : Nat),.int .u64 (h : Nat),.slice pl l.length cl,.slice pb nb cb,.slice pe ne ce,.bool ot] 39))
  have HRX := hid ((RF.refl w.heap.size w).alloc (.cells #[.int .i64 op,.int .i64 a,.int .i64 b,.int .u64 (n : Nat),.int .u64 (h : Nat),.slice pl l.length cl,.slice pb nb cb,.slice pe ne ce,.bool ot] 39))
  have y0 := HX0.out.at (k := 0) (v := .int .i64 op) rfl
  have y1 := HX0.out.at (k := 1) (v := .int .i64 a) rfl
  have y2 := HX0.out.at (k := 2) (v := .int .i64 b) rfl
  have y3 := HX0.out.at (k := 3) (v := .int .u64 (n : Nat)) rfl
  have y4 := HX0.out.at (k := 4) (v := .int .u64 (h : Nat)) rfl
  have y5 := HX0.out.at (k := 5) (v := .slice pl l.length cl) rfl
  have y6 := HX0.out.at (k := 6) (v := .slice pb nb cb) rfl
  have y7 := HX0.out.at (k := 7) (v := .slice pe ne ce) rfl
  have y8 := HX0.out.at (k := 8) (v := .bool ot) rfl
  have hLI : ∀ W,Below B w W → LI B W (.slice pl l.length cl) l := fun W hW => hl.below hW
  have HLI := fun W (hW : Below w.heap.size w W) => hid (hLI W (hW.mono hB))
  have Hn := hid hnn
  have Hh := hid hh
  have HBB := hid hB
  have HSZ : Hid (w.heap.size ≤ w.heap.size) := Nat.le_refl _
  have HLN := hid hnl
  have q1 := uI_len a
  have q2 := uI_len b
  have q3 := usL_len l
  have q5 := uI_len l.length
  have HS0 : Hid (RF w.heap.size w (w.alloc (.cells #[.int .i64 op,.int .i64 a,.int .i64 b,.int .u64 (n : Nat),.int .u64 (h : Nat),.slice pl l.length cl,.slice pb nb cb,.slice pe ne ce,.bool ot] 39)) ∧ CA w.heap.size #[.int .i64 op,.int .i64 a,.int .i64 b,.int .u64 (n : Nat),.int .u64 (h : Nat),.slice pl l.length cl,.slice pb nb cb,.slice pe ne ce,.bool ot] 39 (w.alloc (.cells #[.int .i64 op,.int .i64 a,.int .i64 b,.int .u64 (n : Nat),.int .u64 (h : Nat),.slice pl l.length cl,.slice pb nb cb,.slice pe ne ce,.bool ot] 39))) := ⟨HRX.out,HX0.out⟩
  clear q1 q2 q3 q5 hl hnl hnn hh hB hLI
  go_enter Tryz.func232,Tryz.ntmps232
  go_wp2_with (go_at_call 133; (with_reducible refine (RU_says a _).mono ?_); rintro e w1 ⟨v,rfl,ho,hb⟩; obtain ⟨p1,m1,c1,rfl⟩ := own_slice ho; have HO1 := hid (own_less ho HBX.out.size); have HB1 := hid (HBX.out.trans (hb.mono HBX.out.size)); clear ho hb)
  go_ret
  exact ⟨_,rfl,HO1.out,HB1.out⟩
set_option maxHeartbeats 4000000 in
theorem beh_11 (op a b : Int) (n h : Nat) (l : List Int) (pl pb pe : Option Addr) (cl nb cb ne ce : Nat) (ot : Bool) (B : Nat) (w : World) (hB : B ≤ w.heap.size) (hl : LI B w (.slice pl l.length cl) l) (hnl : l.length + 200 ≤ 1000000000000) (hnn : n < 18446744073709551616) (hh : h < 18446744073709551616) :
  Calls Tryz.prog 232 #[.agg #[.int .i64 op,.int .i64 a,.int .i64 b,.int .u64 (n : Nat),.int .u64 (h : Nat),.slice pl l.length cl,.slice pb nb cb,.slice pe ne ce,.bool ot],.int .i64 11] w (BO w ([0])) := by
 have HX0 := hid (CA.new w #[.int .i64 op,.int .i64 a,.int .i64 b,.int .u64 (n : Nat),.int .u64 (h : Nat),.slice pl l.length cl,.slice pb nb cb,.slice pe ne ce,.bool ot] 39)
 have HBX := hid ((Below.refl w.heap.size w).alloc (Nat.le_refl _) (.cells #[.int .i64 op,.int .i64 a,.int .i64 b,.int .u64 (n : Nat),.int .u64 (h : Nat),.slice pl l.length cl,.slice pb nb cb,.slice pe ne ce,.bool ot] 39))
 have HRX := hid ((RF.refl w.heap.size w).alloc (.cells #[.int .i64 op,.int .i64 a,.int .i64 b,.int .u64 (n : Nat),.int .u64 (h : Nat),.slice pl l.length cl,.slice pb nb cb,.slice pe ne ce,.bool ot] 39))
 have y0 := HX0.out.at (k := 0) (v := .int .i64 op) rfl
 have y1 := HX0.out.at (k := 1) (v := .int .i64 a) rfl
 have y2 := HX0.out.at (k := 2) (v := .int .i64 b) rfl
 have y3 := HX0.out.at (k := 3) (v := .int .u64 (n : Nat)) rfl
 have y4 := HX0.out.at (k := 4) (v := .int .u64 (h : Nat)) rfl
 have y5 := HX0.out.at (k := 5) (v := .slice pl l.length cl) rfl
 have y6 := HX0.out.at (k := 6) (v := .slice pb nb cb) rfl
 have y7 := HX0.out.at (k := 7) (v := .slice pe ne ce) rfl
 have y8 := HX0.out.at (k := 8) (v := .bool ot) rfl
 have hLI : ∀ W,Below B w W → LI B W (.slice pl l.length cl) l := fun W hW => hl.below hW
 have HLI := fun W (hW : Below w.heap.size w W) => hid (hLI W (hW.mono hB))
 have Hn := hid hnn
 have Hh := hid hh
 have HBB := hid hB
 have HSZ : Hid (w.heap.size ≤ w.heap.size) := Nat.le_refl _
 have HLN := hid hnl
 have q1 := uI_len a
 have q2 := uI_len b
 have q3 := usL_len l
 have q5 := uI_len l.length
 have HS0 : Hid (RF w.heap.size w (w.alloc (.cells #[.int .i64 op,.int .i64 a,.int .i64 b,.int .u64 (n : Nat),.int .u64 (h : Nat),.slice pl l.length cl,.slice pb nb cb,.slice pe ne ce,.bool ot] 39)) ∧ CA w.heap.size #[.int .i64 op,.int .i64 a,.int .i64 b,.int .u64 (n : Nat),.int .u64 (h : Nat),.slice pl l.length cl,.slice pb nb cb,.slice pe ne ce,.bool ot] 39 (w.alloc (.cells #[.int .i64 op,.int .i64 a,.int .i64 b,.int .u64 (n : Nat),.int .u64 (h : Nat),.slice pl l.length cl,.slice pb nb cb,.slice pe ne ce,.bool ot] 39))) := ⟨HRX.out,HX0.out⟩
 clear q1 q2 q3 q5 hl hnl hnn hh hB hLI
 go_enter Tryz.func232,Tryz.ntmps232
 go_wp2
 go_ret
 have ho := own_litc (w.alloc (.cells #[.int .i64 op,.int .i64 a,.int .i64 b,.int .u64 (n : Nat),.int .u64 (h : Nat),.slice pl l.length cl,.slice pb nb cb,.slice pe ne ce,.bool ot] 39)) 0 0 rfl
 rw [size_al] at ho
 exact ⟨_,rfl,own_less ho (Nat.le_succ _),HBX.out.alloc HBX.out.size _⟩
set_option maxHeartbeats 4000000 in
theorem beh_12 (op a b : Int) (n h : Nat) (l : List Int) (pl pb pe : Option Addr) (cl nb cb ne ce : Nat) (ot : Bool) (B : Nat) (w : World) (hB : B ≤ w.heap.size) (hl : LI B w (.slice pl l.length cl) l) (hnl : l.length + 200 ≤ 1000000000000) (hnn : n < 18446744073709551616) (hh : h < 18446744073709551616) :
  Calls Tryz.prog 232 #[.agg #[.int .i64 op,.int .i64 a,.int .i64 b,.int .u64 (n : Nat),.int .u64 (h : Nat),.slice pl l.length cl,.slice pb nb cb,.slice pe ne ce,.bool ot],.int .i64 12] w (BO w (slist (sgnN 32 n))) := by
 have HX0 := hid (CA.new w #[.int .i64 op,.int .i64 a,.int .i64 b,.int .u64 (n : Nat),.int .u64 (h : Nat),.slice pl l.length cl,.slice pb nb cb,.slice pe ne ce,.bool ot] 39)
 have HBX := hid ((Below.refl w.heap.size w).alloc (Nat.le_refl _) (.cells #[.int .i64 op,.int .i64 a,.int .i64 b,.int .u64 (n : Nat),.int .u64 (h : Nat),.slice pl l.length cl,.slice pb nb cb,.slice pe ne ce,.bool ot] 39))
 have HRX := hid ((RF.refl w.heap.size w).alloc (.cells #[.int .i64 op,.int .i64 a,.int .i64 b,.int .u64 (n : Nat),.int .u64 (h : Nat),.slice pl l.length cl,.slice pb nb cb,.slice pe ne ce,.bool ot] 39))
 have y0 := HX0.out.at (k := 0) (v := .int .i64 op) rfl
 have y1 := HX0.out.at (k := 1) (v := .int .i64 a) rfl
 have y2 := HX0.out.at (k := 2) (v := .int .i64 b) rfl
 have y3 := HX0.out.at (k := 3) (v := .int .u64 (n : Nat)) rfl
 have y4 := HX0.out.at (k := 4) (v := .int .u64 (h : Nat)) rfl
 have y5 := HX0.out.at (k := 5) (v := .slice pl l.length cl) rfl
 have y6 := HX0.out.at (k := 6) (v := .slice pb nb cb) rfl
 have y7 := HX0.out.at (k := 7) (v := .slice pe ne ce) rfl
 have y8 := HX0.out.at (k := 8) (v := .bool ot) rfl
 have hLI : ∀ W,Below B w W → LI B W (.slice pl l.length cl) l := fun W hW => hl.below hW
 have HLI := fun W (hW : Below w.heap.size w W) => hid (hLI W (hW.mono hB))
 have Hn := hid hnn
 have Hh := hid hh
 have HBB := hid hB
 have HSZ : Hid (w.heap.size ≤ w.heap.size) := Nat.le_refl _
 have HLN := hid hnl
 have q1 := uI_len a
 have q2 := uI_len b
 have q3 := usL_len l
 have q5 := uI_len l.length
 have HS0 : Hid (RF w.heap.size w (w.alloc (.cells #[.int .i64 op,.int .i64 a,.int .i64 b,.int .u64 (n : Nat),.int .u64 (h : Nat),.slice pl l.length cl,.slice pb nb cb,.slice pe ne ce,.bool ot] 39)) ∧ CA w.heap.size #[.int .i64 op,.int .i64 a,.int .i64 b,.int .u64 (n : Nat),.int .u64 (h : Nat),.slice pl l.length cl,.slice pb nb cb,.slice pe ne ce,.bool ot] 39 (w.alloc (.cells #[.int .i64 op,.int .i64 a,.int .i64 b,.int .u64 (n : Nat),.int .u64 (h : Nat),.slice pl l.length cl,.slice pb nb cb,.slice pe ne ce,.bool ot] 39))) := ⟨HRX.out,HX0.out⟩
 have HSG := hid (sgnN_in 32 n (.inl rfl))
 clear q1 q2 q3 q5 hl hnl hnn hh hB hLI
 go_enter Tryz.func232,Tryz.ntmps232
 go_wp2_with (first
  | (go_at_call 247; (with_reducible refine (RSigned_32 n Hn.out _).mono ?_); rintro e w0 ⟨rfl,rfl⟩)
  | (go_at_call 246; (with_reducible refine (refS_any (sgnN 32 n) HSG.out.1 HSG.out.2 _).mono ?_); rintro e w1 ⟨v,rfl,ho,hb⟩; obtain ⟨p1,m1,c1,rfl⟩ := own_slice ho; have HO1 := hid (own_less ho HBX.out.size); have HB1 := hid (HBX.out.trans (hb.mono HBX.out.size)); clear ho hb))
 go_ret
 exact ⟨_,rfl,HO1.out,HB1.out⟩
set_option maxHeartbeats 4000000 in
theorem beh_13 (op a b : Int) (n h : Nat) (l : List Int) (pl pb pe : Option Addr) (cl nb cb ne ce : Nat) (ot : Bool) (B : Nat) (w : World) (hB : B ≤ w.heap.size) (hl : LI B w (.slice pl l.length cl) l) (hnl : l.length + 200 ≤ 1000000000000) (hnn : n < 18446744073709551616) (hh : h < 18446744073709551616) :
  Calls Tryz.prog 232 #[.agg #[.int .i64 op,.int .i64 a,.int .i64 b,.int .u64 (n : Nat),.int .u64 (h : Nat),.slice pl l.length cl,.slice pb nb cb,.slice pe ne ce,.bool ot],.int .i64 13] w (BO w (slist (sgnN 64 n))) := by
 have HX0 := hid (CA.new w #[.int .i64 op,.int .i64 a,.int .i64 b,.int .u64 (n : Nat),.int .u64 (h : Nat),.slice pl l.length cl,.slice pb nb cb,.slice pe ne ce,.bool ot] 39)
 have HBX := hid ((Below.refl w.heap.size w).alloc (Nat.le_refl _) (.cells #[.int .i64 op,.int .i64 a,.int .i64 b,.int .u64 (n : Nat),.int .u64 (h : Nat),.slice pl l.length cl,.slice pb nb cb,.slice pe ne ce,.bool ot] 39))
 have HRX := hid ((RF.refl w.heap.size w).alloc (.cells #[.int .i64 op,.int .i64 a,.int .i64 b,.int .u64 (n : Nat),.int .u64 (h : Nat),.slice pl l.length cl,.slice pb nb cb,.slice pe ne ce,.bool ot] 39))
 have y0 := HX0.out.at (k := 0) (v := .int .i64 op) rfl
 have y1 := HX0.out.at (k := 1) (v := .int .i64 a) rfl
 have y2 := HX0.out.at (k := 2) (v := .int .i64 b) rfl
 have y3 := HX0.out.at (k := 3) (v := .int .u64 (n : Nat)) rfl
 have y4 := HX0.out.at (k := 4) (v := .int .u64 (h : Nat)) rfl
 have y5 := HX0.out.at (k := 5) (v := .slice pl l.length cl) rfl
 have y6 := HX0.out.at (k := 6) (v := .slice pb nb cb) rfl
 have y7 := HX0.out.at (k := 7) (v := .slice pe ne ce) rfl
 have y8 := HX0.out.at (k := 8) (v := .bool ot) rfl
 have hLI : ∀ W,Below B w W → LI B W (.slice pl l.length cl) l := fun W hW => hl.below hW
 have HLI := fun W (hW : Below w.heap.size w W) => hid (hLI W (hW.mono hB))
 have Hn := hid hnn
 have Hh := hid hh
 have HBB := hid hB
 have HSZ : Hid (w.heap.size ≤ w.heap.size) := Nat.le_refl _
 have HLN := hid hnl
 have q1 := uI_len a
 have q2 := uI_len b
 have q3 := usL_len l
 have q5 := uI_len l.length
 have HS0 : Hid (RF w.heap.size w (w.alloc (.cells #[.int .i64 op,.int .i64 a,.int .i64 b,.int .u64 (n : Nat),.int .u64 (h : Nat),.slice pl l.length cl,.slice pb nb cb,.slice pe ne ce,.bool ot] 39)) ∧ CA w.heap.size #[.int .i64 op,.int .i64 a,.int .i64 b,.int .u64 (n : Nat),.int .u64 (h : Nat),.slice pl l.length cl,.slice pb nb cb,.slice pe ne ce,.bool ot] 39 (w.alloc (.cells #[.int .i64 op,.int .i64 a,.int .i64 b,.int .u64 (n : Nat),.int .u64 (h : Nat),.slice pl l.length cl,.slice pb nb cb,.slice pe ne ce,.bool ot] 39))) := ⟨HRX.out,HX0.out⟩
 have HSG := hid (sgnN_in 64 n (.inr rfl))
 have hw64 := wrap_64 n hnn
 clear q1 q2 q3 q5 hl hnl hnn hh hB hLI
 go_enter Tryz.func232,Tryz.ntmps232
 go_wp2_with (go_at_call 246; (with_reducible refine (refS_any (sgnN 64 n) HSG.out.1 HSG.out.2 _).mono ?_); rintro e w1 ⟨v,rfl,ho,hb⟩; obtain ⟨p1,m1,c1,rfl⟩ := own_slice ho; have HO1 := hid (own_less ho HBX.out.size); have HB1 := hid (HBX.out.trans (hb.mono HBX.out.size)); clear ho hb)
 go_ret
 exact ⟨_,rfl,HO1.out,HB1.out⟩
end Go.Proofs.YtjgeedgphcjhoaaGreat
namespace Go.Proofs.YtjgeedgphcjhoaaGreat
open Go.RowKit
set_option maxHeartbeats 4000000 in
theorem beh_14 (op a b : Int) (n h : Nat) (l : List Int) (pl pb pe : Option Addr) (cl nb cb ne ce : Nat) (ot : Bool) (B : Nat) (w : World) (hB : B ≤ w.heap.size) (hl : LI B w (.slice pl l.length cl) l) (hnl : l.length + 200 ≤ 1000000000000) (hnn : n < 18446744073709551616) (hh : h < 18446744073709551616) :
  Calls Tryz.prog 232 #[.agg #[.int .i64 op,.int .i64 a,.int .i64 b,.int .u64 (n : Nat),.int .u64 (h : Nat),.slice pl l.length cl,.slice pb nb cb,.slice pe ne ce,.bool ot],.int .i64 14] w (BO w (lowL 4 n)) := by
 have HX0 := hid (CA.new w #[.int .i64 op,.int .i64 a,.int .i64 b,.int .u64 (n : Nat),.int .u64 (h : Nat),.slice pl l.length cl,.slice pb nb cb,.slice pe ne ce,.bool ot] 39)
 have HBX := hid ((Below.refl w.heap.size w).alloc (Nat.le_refl _) (.cells #[.int .i64 op,.int .i64 a,.int .i64 b,.int .u64 (n : Nat),.int .u64 (h : Nat),.slice pl l.length cl,.slice pb nb cb,.slice pe ne ce,.bool ot] 39))
 have HRX := hid ((RF.refl w.heap.size w).alloc (.cells #[.int .i64 op,.int .i64 a,.int .i64 b,.int .u64 (n : Nat),.int .u64 (h : Nat),.slice pl l.length cl,.slice pb nb cb,.slice pe ne ce,.bool ot] 39))
 have y0 := HX0.out.at (k := 0) (v := .int .i64 op) rfl
 have y1 := HX0.out.at (k := 1) (v := .int .i64 a) rfl
 have y2 := HX0.out.at (k := 2) (v := .int .i64 b) rfl
 have y3 := HX0.out.at (k := 3) (v := .int .u64 (n : Nat)) rfl
 have y4 := HX0.out.at (k := 4) (v := .int .u64 (h : Nat)) rfl
 have y5 := HX0.out.at (k := 5) (v := .slice pl l.length cl) rfl
 have y6 := HX0.out.at (k := 6) (v := .slice pb nb cb) rfl
 have y7 := HX0.out.at (k := 7) (v := .slice pe ne ce) rfl
 have y8 := HX0.out.at (k := 8) (v := .bool ot) rfl
 have hLI : ∀ W,Below B w W → LI B W (.slice pl l.length cl) l := fun W hW => hl.below hW
 have HLI := fun W (hW : Below w.heap.size w W) => hid (hLI W (hW.mono hB))
 have Hn := hid hnn
 have Hh := hid hh
 have HBB := hid hB
 have HSZ : Hid (w.heap.size ≤ w.heap.size) := Nat.le_refl _
 have HLN := hid hnl
 have q1 := uI_len a
 have q2 := uI_len b
 have q3 := usL_len l
 have q5 := uI_len l.length
 have HS0 : Hid (RF w.heap.size w (w.alloc (.cells #[.int .i64 op,.int .i64 a,.int .i64 b,.int .u64 (n : Nat),.int .u64 (h : Nat),.slice pl l.length cl,.slice pb nb cb,.slice pe ne ce,.bool ot] 39)) ∧ CA w.heap.size #[.int .i64 op,.int .i64 a,.int .i64 b,.int .u64 (n : Nat),.int .u64 (h : Nat),.slice pl l.length cl,.slice pb nb cb,.slice pe ne ce,.bool ot] 39 (w.alloc (.cells #[.int .i64 op,.int .i64 a,.int .i64 b,.int .u64 (n : Nat),.int .u64 (h : Nat),.slice pl l.length cl,.slice pb nb cb,.slice pe ne ce,.bool ot] 39))) := ⟨HRX.out,HX0.out⟩
 clear q1 q2 q3 q5 hl hnl hnn hh hB hLI
 go_enter Tryz.func232,Tryz.ntmps232
 go_wp2_with (go_at_call 248; (with_reducible refine (low_4 n Hn.out _).mono ?_); rintro e w1 ⟨v,rfl,ho,hb⟩; obtain ⟨p1,m1,c1,rfl⟩ := own_slice ho; have HO1 := hid (own_less ho HBX.out.size); have HB1 := hid (HBX.out.trans (hb.mono HBX.out.size)); clear ho hb)
 go_ret
 exact ⟨_,rfl,HO1.out,HB1.out⟩
set_option maxHeartbeats 4000000 in
theorem beh_15 (op a b : Int) (n h : Nat) (l : List Int) (pl pb pe : Option Addr) (cl nb cb ne ce : Nat) (ot : Bool) (B : Nat) (w : World) (hB : B ≤ w.heap.size) (hl : LI B w (.slice pl l.length cl) l) (hnl : l.length + 200 ≤ 1000000000000) (hnn : n < 18446744073709551616) (hh : h < 18446744073709551616) :
  Calls Tryz.prog 232 #[.agg #[.int .i64 op,.int .i64 a,.int .i64 b,.int .u64 (n : Nat),.int .u64 (h : Nat),.slice pl l.length cl,.slice pb nb cb,.slice pe ne ce,.bool ot],.int .i64 15] w (BO w (lowL 8 n)) := by
 have HX0 := hid (CA.new w #[.int .i64 op,.int .i64 a,.int .i64 b,.int .u64 (n : Nat),.int .u64 (h : Nat),.slice pl l.length cl,.slice pb nb cb,.slice pe ne ce,.bool ot] 39)
 have HBX := hid ((Below.refl w.heap.size w).alloc (Nat.le_refl _) (.cells #[.int .i64 op,.int .i64 a,.int .i64 b,.int .u64 (n : Nat),.int .u64 (h : Nat),.slice pl l.length cl,.slice pb nb cb,.slice pe ne ce,.bool ot] 39))
 have HRX := hid ((RF.refl w.heap.size w).alloc (.cells #[.int .i64 op,.int .i64 a,.int .i64 b,.int .u64 (n : Nat),.int .u64 (h : Nat),.slice pl l.length cl,.slice pb nb cb,.slice pe ne ce,.bool ot] 39))
 have y0 := HX0.out.at (k := 0) (v := .int .i64 op) rfl
 have y1 := HX0.out.at (k := 1) (v := .int .i64 a) rfl
 have y2 := HX0.out.at (k := 2) (v := .int .i64 b) rfl
 have y3 := HX0.out.at (k := 3) (v := .int .u64 (n : Nat)) rfl
 have y4 := HX0.out.at (k := 4) (v := .int .u64 (h : Nat)) rfl
 have y5 := HX0.out.at (k := 5) (v := .slice pl l.length cl) rfl
 have y6 := HX0.out.at (k := 6) (v := .slice pb nb cb) rfl
 have y7 := HX0.out.at (k := 7) (v := .slice pe ne ce) rfl
 have y8 := HX0.out.at (k := 8) (v := .bool ot) rfl
 have hLI : ∀ W,Below B w W → LI B W (.slice pl l.length cl) l := fun W hW => hl.below hW
 have HLI := fun W (hW : Below w.heap.size w W) => hid (hLI W (hW.mono hB))
 have Hn := hid hnn
 have Hh := hid hh
 have HBB := hid hB
 have HSZ : Hid (w.heap.size ≤ w.heap.size) := Nat.le_refl _
 have HLN := hid hnl
 have q1 := uI_len a
 have q2 := uI_len b
 have q3 := usL_len l
 have q5 := uI_len l.length
 have HS0 : Hid (RF w.heap.size w (w.alloc (.cells #[.int .i64 op,.int .i64 a,.int .i64 b,.int .u64 (n : Nat),.int .u64 (h : Nat),.slice pl l.length cl,.slice pb nb cb,.slice pe ne ce,.bool ot] 39)) ∧ CA w.heap.size #[.int .i64 op,.int .i64 a,.int .i64 b,.int .u64 (n : Nat),.int .u64 (h : Nat),.slice pl l.length cl,.slice pb nb cb,.slice pe ne ce,.bool ot] 39 (w.alloc (.cells #[.int .i64 op,.int .i64 a,.int .i64 b,.int .u64 (n : Nat),.int .u64 (h : Nat),.slice pl l.length cl,.slice pb nb cb,.slice pe ne ce,.bool ot] 39))) := ⟨HRX.out,HX0.out⟩
 clear q1 q2 q3 q5 hl hnl hnn hh hB hLI
 go_enter Tryz.func232,Tryz.ntmps232
 go_wp2_with (go_at_call 248; (with_reducible refine (low_8 n Hn.out _).mono ?_); rintro e w1 ⟨v,rfl,ho,hb⟩; obtain ⟨p1,m1,c1,rfl⟩ := own_slice ho; have HO1 := hid (own_less ho HBX.out.size); have HB1 := hid (HBX.out.trans (hb.mono HBX.out.size)); clear ho hb)
 go_ret
 exact ⟨_,rfl,HO1.out,HB1.out⟩
set_option maxHeartbeats 4000000 in
theorem beh_16 (K : Int) (hK : K = 16 ∨ K = 25) (op a b : Int) (n h : Nat) (l : List Int) (pl pb pe : Option Addr) (cl nb cb ne ce : Nat) (ot : Bool) (B : Nat) (w : World) (hB : B ≤ w.heap.size) (hl : LI B w (.slice pl l.length cl) l) (hnl : l.length + 200 ≤ 1000000000000) (hnn : n < 18446744073709551616) (hh : h < 18446744073709551616) :
  Calls Tryz.prog 232 #[.agg #[.int .i64 op,.int .i64 a,.int .i64 b,.int .u64 (n : Nat),.int .u64 (h : Nat),.slice pl l.length cl,.slice pb nb cb,.slice pe ne ce,.bool ot],.int .i64 K] w (BO w ([byI a])) := by
 rcases hK with rfl | rfl
 all_goals
  have HX0 := hid (CA.new w #[.int .i64 op,.int .i64 a,.int .i64 b,.int .u64 (n : Nat),.int .u64 (h : Nat),.slice pl l.length cl,.slice pb nb cb,.slice pe ne ce,.bool ot] 39)
  have HBX := hid ((Below.refl w.heap.size w).alloc (Nat.le_refl _) (.cells #[.int .i64 op,.int .i64 a,.int .i64 b,.int .u64 (n : Nat),.int .u64 (h : Nat),.slice pl l.length cl,.slice pb nb cb,.slice pe ne ce,.bool ot] 39))
  have HRX := hid ((RF.refl w.heap.size w).alloc (.cells #[.int .i64 op,.int .i64 a,.int .i64 b,.int .u64 (n : Nat),.int .u64 (h : Nat),.slice pl l.length cl,.slice pb nb cb,.slice pe ne ce,.bool ot] 39))
  have y0 := HX0.out.at (k := 0) (v := .int .i64 op) rfl
  have y1 := HX0.out.at (k := 1) (v := .int .i64 a) rfl
  have y2 := HX0.out.at (k := 2) (v := .int .i64 b) rfl
  have y3 := HX0.out.at (k := 3) (v := .int .u64 (n : Nat)) rfl
  have y4 := HX0.out.at (k := 4) (v := .int .u64 (h : Nat)) rfl
  have y5 := HX0.out.at (k := 5) (v := .slice pl l.length cl) rfl
  have y6 := HX0.out.at (k := 6) (v := .slice pb nb cb) rfl
  have y7 := HX0.out.at (k := 7) (v := .slice pe ne ce) rfl
  have y8 := HX0.out.at (k := 8) (v := .bool ot) rfl
  have hLI : ∀ W,Below B w W → LI B W (.slice pl l.length cl) l := fun W hW => hl.below hW
  have HLI := fun W (hW : Below w.heap.size w W) => hid (hLI W (hW.mono hB))
  have Hn := hid hnn
  have Hh := hid hh
  have HBB := hid hB
  have HSZ : Hid (w.heap.size ≤ w.heap.size) := Nat.le_refl _
  have HLN := hid hnl
  have q1 := uI_len a
  have q2 := uI_len b
  have q3 := usL_len l
  have q5 := uI_len l.length
  have HS0 : Hid (RF w.heap.size w (w.alloc (.cells #[.int .i64 op,.int .i64 a,.int .i64 b,.int .u64 (n : Nat),.int .u64 (h : Nat),.slice pl l.length cl,.slice pb nb cb,.slice pe ne ce,.bool ot] 39)) ∧ CA w.heap.size #[.int .i64 op,.int .i64 a,.int .i64 b,.int .u64 (n : Nat),.int .u64 (h : Nat),.slice pl l.length cl,.slice pb nb cb,.slice pe ne ce,.bool ot] 39 (w.alloc (.cells #[.int .i64 op,.int .i64 a,.int .i64 b,.int .u64 (n : Nat),.int .u64 (h : Nat),.slice pl l.length cl,.slice pb nb cb,.slice pe ne ce,.bool ot] 39))) := ⟨HRX.out,HX0.out⟩
  clear q1 q2 q3 q5 hl hnl hnn hh hB hLI
  go_enter Tryz.func232,Tryz.ntmps232
  go_wp2
  go_ret
  have ho := own_lit1 (w.alloc (.cells #[.int .i64 op,.int .i64 a,.int .i64 b,.int .u64 (n : Nat),.int .u64 (h : Nat),.slice pl l.length cl,.slice pb nb cb,.slice pe ne ce,.bool ot] 39)) a
  rw [size_al] at ho
  exact ⟨_,rfl,own_less ho (Nat.le_succ _),HBX.out.alloc HBX.out.size _⟩
set_option maxHeartbeats 4000000 in
theorem beh_17 (op a b : Int) (n h : Nat) (l : List Int) (pl pb pe : Option Addr) (cl nb cb ne ce : Nat) (ot : Bool) (B : Nat) (w : World) (hB : B ≤ w.heap.size) (hl : LI B w (.slice pl l.length cl) l) (hnl : l.length + 200 ≤ 1000000000000) (hnn : n < 18446744073709551616) (hh : h < 18446744073709551616) :
  Calls Tryz.prog 232 #[.agg #[.int .i64 op,.int .i64 a,.int .i64 b,.int .u64 (n : Nat),.int .u64 (h : Nat),.slice pl l.length cl,.slice pb nb cb,.slice pe ne ce,.bool ot],.int .i64 17] w (BO w (uI a ++ [0])) := by
 have HX0 := hid (CA.new w #[.int .i64 op,.int .i64 a,.int .i64 b,.int .u64 (n : Nat),.int .u64 (h : Nat),.slice pl l.length cl,.slice pb nb cb,.slice pe ne ce,.bool ot] 39)
 have HBX := hid ((Below.refl w.heap.size w).alloc (Nat.le_refl _) (.cells #[.int .i64 op,.int .i64 a,.int .i64 b,.int .u64 (n : Nat),.int .u64 (h : Nat),.slice pl l.length cl,.slice pb nb cb,.slice pe ne ce,.bool ot] 39))
 have HRX := hid ((RF.refl w.heap.size w).alloc (.cells #[.int .i64 op,.int .i64 a,.int .i64 b,.int .u64 (n : Nat),.int .u64 (h : Nat),.slice pl l.length cl,.slice pb nb cb,.slice pe ne ce,.bool ot] 39))
 have y0 := HX0.out.at (k := 0) (v := .int .i64 op) rfl
 have y1 := HX0.out.at (k := 1) (v := .int .i64 a) rfl
 have y2 := HX0.out.at (k := 2) (v := .int .i64 b) rfl
 have y3 := HX0.out.at (k := 3) (v := .int .u64 (n : Nat)) rfl
 have y4 := HX0.out.at (k := 4) (v := .int .u64 (h : Nat)) rfl
 have y5 := HX0.out.at (k := 5) (v := .slice pl l.length cl) rfl
 have y6 := HX0.out.at (k := 6) (v := .slice pb nb cb) rfl
 have y7 := HX0.out.at (k := 7) (v := .slice pe ne ce) rfl
 have y8 := HX0.out.at (k := 8) (v := .bool ot) rfl
 have hLI : ∀ W,Below B w W → LI B W (.slice pl l.length cl) l := fun W hW => hl.below hW
 have HLI := fun W (hW : Below w.heap.size w W) => hid (hLI W (hW.mono hB))
 have Hn := hid hnn
 have Hh := hid hh
 have HBB := hid hB
 have HSZ : Hid (w.heap.size ≤ w.heap.size) := Nat.le_refl _
 have HLN := hid hnl
 have q1 := uI_len a
 have q2 := uI_len b
 have q3 := usL_len l
 have q5 := uI_len l.length
 have HS0 : Hid (RF w.heap.size w (w.alloc (.cells #[.int .i64 op,.int .i64 a,.int .i64 b,.int .u64 (n : Nat),.int .u64 (h : Nat),.slice pl l.length cl,.slice pb nb cb,.slice pe ne ce,.bool ot] 39)) ∧ CA w.heap.size #[.int .i64 op,.int .i64 a,.int .i64 b,.int .u64 (n : Nat),.int .u64 (h : Nat),.slice pl l.length cl,.slice pb nb cb,.slice pe ne ce,.bool ot] 39 (w.alloc (.cells #[.int .i64 op,.int .i64 a,.int .i64 b,.int .u64 (n : Nat),.int .u64 (h : Nat),.slice pl l.length cl,.slice pb nb cb,.slice pe ne ce,.bool ot] 39))) := ⟨HRX.out,HX0.out⟩
 have HN := hid (show (uI a).length + ([0] : List UInt8).length ≤ 140737488355000 by simp only [List.length_cons,List.length_nil]; omega)
 clear q1 q2 q3 q5 hl hnl hnn hh hB hLI
 go_enter Tryz.func232,Tryz.ntmps232
 go_wp2_with (first
  | (go_at_call 133; (with_reducible refine (RU_says a _).mono ?_); rintro e w1 ⟨v,rfl,ho,hb⟩; obtain ⟨p1,m1,c1,rfl⟩ := own_slice ho; have HO1 := hid (own_less ho HBX.out.size); have HB1 := hid (HBX.out.trans (hb.mono HBX.out.size)); clear ho hb)
  | (at_builtin; refine append_rowW rfl _ _ rfl w.heap.size _ _ _ _ _ w (own_kept HO1.out ((Below.refl _ _).alloc (Nat.le_refl _) _)) (own_litc w1 0 0 rfl) HN.out (Nat.le_refl _) ((RF.of HB1.out).alloc _) rfl rfl ?_; intro p3 m3 c3 w3 ho3 hf3; have HO3 := hid ho3; have HF3 := hid hf3; clear ho3 hf3))
 go_ret
 exact ⟨_,rfl,HO3.out,HF3.out.below (Nat.le_refl _)⟩
set_option maxHeartbeats 4000000 in
theorem beh_19 (op a b : Int) (n h : Nat) (l : List Int) (pl pb pe : Option Addr) (cl nb cb ne ce : Nat) (ot : Bool) (B : Nat) (w : World) (hB : B ≤ w.heap.size) (hl : LI B w (.slice pl l.length cl) l) (hnl : l.length + 200 ≤ 1000000000000) (hnn : n < 18446744073709551616) (hh : h < 18446744073709551616) :
  Calls Tryz.prog 232 #[.agg #[.int .i64 op,.int .i64 a,.int .i64 b,.int .u64 (n : Nat),.int .u64 (h : Nat),.slice pl l.length cl,.slice pb nb cb,.slice pe ne ce,.bool ot],.int .i64 19] w (BO w ([0,0])) := by
 have HX0 := hid (CA.new w #[.int .i64 op,.int .i64 a,.int .i64 b,.int .u64 (n : Nat),.int .u64 (h : Nat),.slice pl l.length cl,.slice pb nb cb,.slice pe ne ce,.bool ot] 39)
 have HBX := hid ((Below.refl w.heap.size w).alloc (Nat.le_refl _) (.cells #[.int .i64 op,.int .i64 a,.int .i64 b,.int .u64 (n : Nat),.int .u64 (h : Nat),.slice pl l.length cl,.slice pb nb cb,.slice pe ne ce,.bool ot] 39))
 have HRX := hid ((RF.refl w.heap.size w).alloc (.cells #[.int .i64 op,.int .i64 a,.int .i64 b,.int .u64 (n : Nat),.int .u64 (h : Nat),.slice pl l.length cl,.slice pb nb cb,.slice pe ne ce,.bool ot] 39))
 have y0 := HX0.out.at (k := 0) (v := .int .i64 op) rfl
 have y1 := HX0.out.at (k := 1) (v := .int .i64 a) rfl
 have y2 := HX0.out.at (k := 2) (v := .int .i64 b) rfl
 have y3 := HX0.out.at (k := 3) (v := .int .u64 (n : Nat)) rfl
 have y4 := HX0.out.at (k := 4) (v := .int .u64 (h : Nat)) rfl
 have y5 := HX0.out.at (k := 5) (v := .slice pl l.length cl) rfl
 have y6 := HX0.out.at (k := 6) (v := .slice pb nb cb) rfl
 have y7 := HX0.out.at (k := 7) (v := .slice pe ne ce) rfl
 have y8 := HX0.out.at (k := 8) (v := .bool ot) rfl
 have hLI : ∀ W,Below B w W → LI B W (.slice pl l.length cl) l := fun W hW => hl.below hW
 have HLI := fun W (hW : Below w.heap.size w W) => hid (hLI W (hW.mono hB))
 have Hn := hid hnn
 have Hh := hid hh
 have HBB := hid hB
 have HSZ : Hid (w.heap.size ≤ w.heap.size) := Nat.le_refl _
 have HLN := hid hnl
 have q1 := uI_len a
 have q2 := uI_len b
 have q3 := usL_len l
 have q5 := uI_len l.length
 have HS0 : Hid (RF w.heap.size w (w.alloc (.cells #[.int .i64 op,.int .i64 a,.int .i64 b,.int .u64 (n : Nat),.int .u64 (h : Nat),.slice pl l.length cl,.slice pb nb cb,.slice pe ne ce,.bool ot] 39)) ∧ CA w.heap.size #[.int .i64 op,.int .i64 a,.int .i64 b,.int .u64 (n : Nat),.int .u64 (h : Nat),.slice pl l.length cl,.slice pb nb cb,.slice pe ne ce,.bool ot] 39 (w.alloc (.cells #[.int .i64 op,.int .i64 a,.int .i64 b,.int .u64 (n : Nat),.int .u64 (h : Nat),.slice pl l.length cl,.slice pb nb cb,.slice pe ne ce,.bool ot] 39))) := ⟨HRX.out,HX0.out⟩
 clear q1 q2 q3 q5 hl hnl hnn hh hB hLI
 go_enter Tryz.func232,Tryz.ntmps232
 go_wp2
 go_ret
 have ho := World.ownsRow_lit (base := w.heap.size) (e := 5) (size := 1) (w.alloc (.cells #[.int .i64 op,.int .i64 a,.int .i64 b,.int .u64 (n : Nat),.int .u64 (h : Nat),.slice pl l.length cl,.slice pb nb cb,.slice pe ne ce,.bool ot] 39)) #[.int .u8 0,.int .u8 0] 2 (by rw [size_al]; omega) (by decide) rfl
 rw [size_al] at ho
 exact ⟨_,rfl,ho,HBX.out.alloc HBX.out.size _⟩
set_option maxHeartbeats 4000000 in
theorem beh_24 (op a b : Int) (n h : Nat) (l : List Int) (pl pb pe : Option Addr) (cl nb cb ne ce : Nat) (ot : Bool) (B : Nat) (w : World) (hB : B ≤ w.heap.size) (hl : LI B w (.slice pl l.length cl) l) (hnl : l.length + 200 ≤ 1000000000000) (hnn : n < 18446744073709551616) (hh : h < 18446744073709551616) :
  Calls Tryz.prog 232 #[.agg #[.int .i64 op,.int .i64 a,.int .i64 b,.int .u64 (n : Nat),.int .u64 (h : Nat),.slice pl l.length cl,.slice pb nb cb,.slice pe ne ce,.bool ot],.int .i64 24] w (BO w (l.map byI)) := by
 have HX0 := hid (CA.new w #[.int .i64 op,.int .i64 a,.int .i64 b,.int .u64 (n : Nat),.int .u64 (h : Nat),.slice pl l.length cl,.slice pb nb cb,.slice pe ne ce,.bool ot] 39)
 have HBX := hid ((Below.refl w.heap.size w).alloc (Nat.le_refl _) (.cells #[.int .i64 op,.int .i64 a,.int .i64 b,.int .u64 (n : Nat),.int .u64 (h : Nat),.slice pl l.length cl,.slice pb nb cb,.slice pe ne ce,.bool ot] 39))
 have HRX := hid ((RF.refl w.heap.size w).alloc (.cells #[.int .i64 op,.int .i64 a,.int .i64 b,.int .u64 (n : Nat),.int .u64 (h : Nat),.slice pl l.length cl,.slice pb nb cb,.slice pe ne ce,.bool ot] 39))
 have y0 := HX0.out.at (k := 0) (v := .int .i64 op) rfl
 have y1 := HX0.out.at (k := 1) (v := .int .i64 a) rfl
 have y2 := HX0.out.at (k := 2) (v := .int .i64 b) rfl
 have y3 := HX0.out.at (k := 3) (v := .int .u64 (n : Nat)) rfl
 have y4 := HX0.out.at (k := 4) (v := .int .u64 (h : Nat)) rfl
 have y5 := HX0.out.at (k := 5) (v := .slice pl l.length cl) rfl
 have y6 := HX0.out.at (k := 6) (v := .slice pb nb cb) rfl
 have y7 := HX0.out.at (k := 7) (v := .slice pe ne ce) rfl
 have y8 := HX0.out.at (k := 8) (v := .bool ot) rfl
 have hLI : ∀ W,Below B w W → LI B W (.slice pl l.length cl) l := fun W hW => hl.below hW
 have HLI := fun W (hW : Below w.heap.size w W) => hid (hLI W (hW.mono hB))
 have Hn := hid hnn
 have Hh := hid hh
 have HBB := hid hB
 have HSZ : Hid (w.heap.size ≤ w.heap.size) := Nat.le_refl _
 have HLN := hid hnl
 have q1 := uI_len a
 have q2 := uI_len b
 have q3 := usL_len l
 have q5 := uI_len l.length
 have HS0 : Hid (RF w.heap.size w (w.alloc (.cells #[.int .i64 op,.int .i64 a,.int .i64 b,.int .u64 (n : Nat),.int .u64 (h : Nat),.slice pl l.length cl,.slice pb nb cb,.slice pe ne ce,.bool ot] 39)) ∧ CA w.heap.size #[.int .i64 op,.int .i64 a,.int .i64 b,.int .u64 (n : Nat),.int .u64 (h : Nat),.slice pl l.length cl,.slice pb nb cb,.slice pe ne ce,.bool ot] 39 (w.alloc (.cells #[.int .i64 op,.int .i64 a,.int .i64 b,.int .u64 (n : Nat),.int .u64 (h : Nat),.slice pl l.length cl,.slice pb nb cb,.slice pe ne ce,.bool ot] 39))) := ⟨HRX.out,HX0.out⟩
 have HOC := fun W (hW : Below w.heap.size w W) => hid (octets_says l _ B W (HLI W hW).out (Nat.le_trans hB hW.size) (by omega))
 clear q1 q2 q3 q5 hl hnl hnn hh hB hLI
 go_enter Tryz.func232,Tryz.ntmps232
 go_wp2_with (go_at_call 202; (with_reducible refine ((HOC _ HBX.out).out).mono ?_); rintro e w1 ⟨v,rfl,ho,hb⟩; obtain ⟨p1,m1,c1,rfl⟩ := own_slice ho; have HO1 := hid (own_less ho HBX.out.size); have HB1 := hid (HBX.out.trans (hb.mono HBX.out.size)); clear ho hb)
 go_ret
 exact ⟨_,rfl,HO1.out,HB1.out⟩
end Go.Proofs.YtjgeedgphcjhoaaGreat
