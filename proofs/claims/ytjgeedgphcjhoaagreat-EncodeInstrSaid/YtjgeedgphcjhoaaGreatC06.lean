/-
  RBeh3, RBeh4: merged, what the law does not reach left out (each text says what it holds where it lies in wip). No condition.
-/
import Derived.Test.YtjgeedgphcjhoaaGreatC04
import Derived.Deep.RegionHeld3
set_option linter.unusedSimpArgs false
set_option linter.unusedVariables false
set_option maxRecDepth 100000
namespace Go.Proofs.YtjgeedgphcjhoaaGreat
open Go.RowKit
set_option maxHeartbeats 4000000 in
theorem beh_5 (K : Int) (hK : K = 5 ∨ K = 10 ∨ K = 20 ∨ K = 22) (op a b : Int) (n h : Nat) (l : List Int) (pl pb pe : Option Addr) (cl nb cb ne ce : Nat) (ot : Bool) (B : Nat) (w : World) (hB : B ≤ w.heap.size) (hl : LI B w (.slice pl l.length cl) l) (hnl : l.length + 200 ≤ 1000000000000) (hnn : n < 18446744073709551616) (hh : h < 18446744073709551616) :
  Calls Tryz.prog 232 #[.agg #[.int .i64 op,.int .i64 a,.int .i64 b,.int .u64 (n : Nat),.int .u64 (h : Nat),.slice pl l.length cl,.slice pb nb cb,.slice pe ne ce,.bool ot],.int .i64 K] w (BO w (uI a ++ uI b)) := by
 rcases hK with rfl | rfl | rfl | rfl
 all_goals
  have HX0 := hid (CA.new w #[.int .i64 op,.int .i64 a,.int .i64 b,.int .u64 (n : Nat),.int .u64 (h : Nat),.slice pl l.length cl,.slice pb nb cb,.slice pe ne ce,.bool ot] 39)
  have HBX := hid ((Below.refl w.heap.size w).alloc (Nat.le_refl _) (.cells #[.int .i64 op,.int .i64 a,.int .i64 b,.int .u64 (n : Nat),.int .u64 (h : Nat),.slice pl l.length cl,.slice pb nb cb,.slice pe ne ce,.bool ot] 39))
  have HRX := hid ((RF.refl w.heap.size w).alloc (.cells #[.int .i64 op,.int .i64 a,.int .i64 b,.int .u64 (n : Nat),.int .u64 (h : Nat),.slice pl l.length cl,.slice pb nb cb,.slice pe ne ce,.bool ot] 39))
  have y0 := HX0.out.at (k := 0) (v := .int .i64 op) rfl
  have y1 := HX0.out.at (k := 1) (v := .int .i64 a) rfl
  have y2 := HX0.out.at (k := 2) (v := .int .i64 b) rfl
  have y3 := HX0.out.at (k := 3) (v := .int .u64 (n : Nat)) rfl
  have y4 := HX0.out.at (k := 4) (v := .int .u64 (h : Nat)) rfl
  have y5 := HX0.out.at (k := 5) (v := .slice pl l.length cl) rfl
  have y6 := HX0.out.at (k := 6) (v := .slice pb nb cb) rfl
  have y7 := HX0.out.at (k := 7) (v := .slice pe ne ce) rfl
  have y8 := HX0.out.at (k := 8) (v := .bool ot) rfl
  have hLI : ∀ W,Below B w W → LI B W (.slice pl l.length cl) l := fun W hW => hl.below hW
  have HLI := fun W (hW : Below w.heap.size w W) => hid (hLI W (hW.mono hB))
  have Hn := hid hnn
  have Hh := hid hh
  have HBB := hid hB
  have HSZ : Hid (w.heap.size ≤ w.heap.size) := Nat.le_refl _
  have HLN := hid hnl
  have q1 := uI_len a
  have q2 := uI_len b
  have q3 := usL_len l
  have q5 := uI_len l.length
  have HS0 : Hid (RF w.heap.size w (w.alloc (.cells #[.int .i64 op,.int .i64 a,.int .i64 b,.int .u64 (n : Nat),.int .u64 (h : Nat),.slice pl l.length cl,.slice pb nb cb,.slice pe ne ce,.bool ot] 39)) ∧ CA w.heap.size #[.int .i64 op,.int .i64 a,.int .i64 b,.int .u64 (n : Nat),.int .u64 (h : Nat),.slice pl l.length cl,.slice pb nb cb,.slice pe ne ce,.bool ot] 39 (w.alloc (.cells #[.int .i64 op,.int .i64 a,.int .i64 b,.int .u64 (n : Nat),.int .u64 (h : Nat),.slice pl l.length cl,.slice pb nb cb,.slice pe ne ce,.bool ot] 39))) := ⟨HRX.out,HX0.out⟩
  have HN := hid (show (uI a).length + (uI b).length ≤ 140737488355000 by omega)
  clear q1 q2 q3 q5 hl hnl hnn hh hB hLI
  go_enter Tryz.func232,Tryz.ntmps232
  go_upto_region 25 with fail
  have hS : RF w.heap.size w (w.alloc (.cells #[.int .i64 op,.int .i64 a,.int .i64 b,.int .u64 (n : Nat),.int .u64 (h : Nat),.slice pl l.length cl,.slice pb nb cb,.slice pe ne ce,.bool ot] 39)).drew ∧ CA w.heap.size #[.int .i64 op,.int .i64 a,.int .i64 b,.int .u64 (n : Nat),.int .u64 (h : Nat),.slice pl l.length cl,.slice pb nb cb,.slice pe ne ce,.bool ot] 39 (w.alloc (.cells #[.int .i64 op,.int .i64 a,.int .i64 b,.int .u64 (n : Nat),.int .u64 (h : Nat),.slice pl l.length cl,.slice pb nb cb,.slice pe ne ce,.bool ot] 39)).drew := ⟨HS0.out.1.drew,HS0.out.2⟩
  clear HS0
  refine wp_region_held_drew (S := fun W => RF w.heap.size w W ∧ CA w.heap.size #[.int .i64 op,.int .i64 a,.int .i64 b,.int .u64 (n : Nat),.int .u64 (h : Nat),.slice pl l.length cl,.slice pb nb cb,.slice pe ne ce,.bool ot] 39 W) (by kernel_rfl) hS (fun _ => ?_)
  generalize (w.alloc (.cells #[.int .i64 op,.int .i64 a,.int .i64 b,.int .u64 (n : Nat),.int .u64 (h : Nat),.slice pl l.length cl,.slice pb nb cb,.slice pe ne ce,.bool ot] 39)).drew = W at *
  refine wpAnyH_take (oi := ⟨_,_,_,_,_,_⟩) (i := 0) (v := .pointer (some ⟨w.heap.size,1,none⟩)) rfl (by kernel_rfl) (by kernel_rfl) (by kernel_rfl) (fun _ _ _ h => h) (Or.inl ⟨by rfl,?_⟩) (by assumption) ?_
  ·(intro W hSw; have x0 := hSw.2.at (k := 0) (v := .int .i64 op) rfl; have x1 := hSw.2.at (k := 1) (v := .int .i64 a) rfl; have x2 := hSw.2.at (k := 2) (v := .int .i64 b) rfl; have x3 := hSw.2.at (k := 3) (v := .int .u64 (n : Nat)) rfl; have x4 := hSw.2.at (k := 4) (v := .int .u64 (h : Nat)) rfl; have x5 := hSw.2.at (k := 5) (v := .slice pl l.length cl) rfl; have x6 := hSw.2.at (k := 6) (v := .slice pb nb cb) rfl; have x7 := hSw.2.at (k := 7) (v := .slice pe ne ce) rfl; have x8 := hSw.2.at (k := 8) (v := .bool ot) rfl; go_simp; try (with_reducible rfl))
  try simp only [Act.put,List.setIfInBounds_toArray,List.set_cons_zero,List.set_cons_succ]
  refine wpAnyH_take (oi := ⟨_,_,_,_,_,_⟩) (i := 1) (v := .int .i64 a) rfl (by kernel_rfl) (by kernel_rfl) (by kernel_rfl) (fun _ _ _ h => h) (Or.inl ⟨by rfl,?_⟩) (by assumption) ?_
  ·(intro W hSw; have x0 := hSw.2.at (k := 0) (v := .int .i64 op) rfl; have x1 := hSw.2.at (k := 1) (v := .int .i64 a) rfl; have x2 := hSw.2.at (k := 2) (v := .int .i64 b) rfl; have x3 := hSw.2.at (k := 3) (v := .int .u64 (n : Nat)) rfl; have x4 := hSw.2.at (k := 4) (v := .int .u64 (h : Nat)) rfl; have x5 := hSw.2.at (k := 5) (v := .slice pl l.length cl) rfl; have x6 := hSw.2.at (k := 6) (v := .slice pb nb cb) rfl; have x7 := hSw.2.at (k := 7) (v := .slice pe ne ce) rfl; have x8 := hSw.2.at (k := 8) (v := .bool ot) rfl; go_simp; try (with_reducible rfl))
  try simp only [Act.put,List.setIfInBounds_toArray,List.set_cons_zero,List.set_cons_succ]
  refine wpAnyH_take (oi := ⟨_,_,_,_,_,_⟩) (i := 3) (v := .pointer (some ⟨w.heap.size,2,none⟩)) rfl (by kernel_rfl) (by kernel_rfl) (by kernel_rfl) (fun _ _ _ h => h) (Or.inl ⟨by rfl,?_⟩) (by assumption) ?_
  ·(intro W hSw; have x0 := hSw.2.at (k := 0) (v := .int .i64 op) rfl; have x1 := hSw.2.at (k := 1) (v := .int .i64 a) rfl; have x2 := hSw.2.at (k := 2) (v := .int .i64 b) rfl; have x3 := hSw.2.at (k := 3) (v := .int .u64 (n : Nat)) rfl; have x4 := hSw.2.at (k := 4) (v := .int .u64 (h : Nat)) rfl; have x5 := hSw.2.at (k := 5) (v := .slice pl l.length cl) rfl; have x6 := hSw.2.at (k := 6) (v := .slice pb nb cb) rfl; have x7 := hSw.2.at (k := 7) (v := .slice pe ne ce) rfl; have x8 := hSw.2.at (k := 8) (v := .bool ot) rfl; go_simp; try (with_reducible rfl))
  try simp only [Act.put,List.setIfInBounds_toArray,List.set_cons_zero,List.set_cons_succ]
  refine wpAnyH_take (oi := ⟨_,_,_,_,_,_⟩) (i := 4) (v := .int .i64 b) rfl (by kernel_rfl) (by kernel_rfl) (by kernel_rfl) (fun _ _ _ h => h) (Or.inl ⟨by rfl,?_⟩) (by assumption) ?_
  ·(intro W hSw; have x0 := hSw.2.at (k := 0) (v := .int .i64 op) rfl; have x1 := hSw.2.at (k := 1) (v := .int .i64 a) rfl; have x2 := hSw.2.at (k := 2) (v := .int .i64 b) rfl; have x3 := hSw.2.at (k := 3) (v := .int .u64 (n : Nat)) rfl; have x4 := hSw.2.at (k := 4) (v := .int .u64 (h : Nat)) rfl; have x5 := hSw.2.at (k := 5) (v := .slice pl l.length cl) rfl; have x6 := hSw.2.at (k := 6) (v := .slice pb nb cb) rfl; have x7 := hSw.2.at (k := 7) (v := .slice pe ne ce) rfl; have x8 := hSw.2.at (k := 8) (v := .bool ot) rfl; go_simp; try (with_reducible rfl))
  try simp only [Act.put,List.setIfInBounds_toArray,List.set_cons_zero,List.set_cons_succ]
  refine wpAnyH_ready (rs := [2]) (by kernel_rfl) (by simp) ?_
  refine AllReadyH.cons (o := ⟨_,_,_,_,_,_⟩) rfl (fun K hK => ?_) ?_
  ·go_simp
   go_at_call 133
   (with_reducible refine (RU_says a W).mono ?_)
   rintro e W1 ⟨v,rfl,ho,hb⟩
   obtain ⟨p1,m1,c1,rfl⟩ := own_slice ho
   have HO1 := hid (own_less ho (Nat.le_trans HSZ.out hS.1.size))
   replace hS := And.intro (hS.1.trans (RF.of hb)) (hS.2.below hb hS.2.lt)
   clear ho hb
   refine hK.out _ _ hS (fun _ => ?_)
   clear hK K
   try simp only [Act.put,List.setIfInBounds_toArray,List.set_cons_zero,List.set_cons_succ]
   refine wpAnyH_ready (rs := [5]) (by kernel_rfl) (by simp) ?_
   refine AllReadyH.cons (o := ⟨_,_,_,_,_,_⟩) rfl (fun K hK => ?_) ?_
   ·go_simp
    go_at_call 133
    (with_reducible refine (RU_says b W1).mono ?_)
    rintro e W2 ⟨v,rfl,ho,hb⟩
    obtain ⟨p2,m2,c2,rfl⟩ := own_slice ho
    have HO2 := hid (own_less ho (Nat.le_trans HSZ.out hS.1.size))
    replace HO1 := hid (own_kept HO1.out hb)
    replace hS := And.intro (hS.1.trans (RF.of hb)) (hS.2.below hb hS.2.lt)
    clear ho hb
    refine hK.out _ _ hS (fun _ => ?_)
    clear hK K
    try simp only [Act.put,List.setIfInBounds_toArray,List.set_cons_zero,List.set_cons_succ]
    refine wpAnyH_ready (rs := [6]) (by kernel_rfl) (by simp) ?_
    refine AllReadyH.cons (o := ⟨_,_,_,_,_,_⟩) rfl (fun K hK => ?_) ?_
    ·refine append_rowS rfl (.tmp 77) (.tmp 80) rfl w.heap.size _ _ _ _ _ w HO1.out HO2.out HN.out (Nat.le_refl _) hS.1 rfl rfl ?_
     intro p3 m3 c3 W3 ho3 hr
     replace hS := And.intro (hS.1.trans hr) (hS.2.rf hr (by decide))
     have HO3 := hid ho3
     clear ho3 hr HO1 HO2
     refine hK.out _ _ hS (fun _ => ?_)
     clear hK K
     try simp only [Act.put,List.setIfInBounds_toArray,List.set_cons_zero,List.set_cons_succ]
     refine wpAnyH_take (oi := ⟨_,_,_,_,_,_⟩) (i := 7) (v := .slice p3 m3 c3) rfl (by kernel_rfl) (by kernel_rfl) (by kernel_rfl) (fun _ _ _ h => h) (Or.inl ⟨by rfl,?_⟩) (by assumption) ?_
     ·(intro W hSw; have x0 := hSw.2.at (k := 0) (v := .int .i64 op) rfl; have x1 := hSw.2.at (k := 1) (v := .int .i64 a) rfl; have x2 := hSw.2.at (k := 2) (v := .int .i64 b) rfl; have x3 := hSw.2.at (k := 3) (v := .int .u64 (n : Nat)) rfl; have x4 := hSw.2.at (k := 4) (v := .int .u64 (h : Nat)) rfl; have x5 := hSw.2.at (k := 5) (v := .slice pl l.length cl) rfl; have x6 := hSw.2.at (k := 6) (v := .slice pb nb cb) rfl; have x7 := hSw.2.at (k := 7) (v := .slice pe ne ce) rfl; have x8 := hSw.2.at (k := 8) (v := .bool ot) rfl; go_simp; try (with_reducible rfl))
     try simp only [Act.put,List.setIfInBounds_toArray,List.set_cons_zero,List.set_cons_succ]
     refine wpAnyH_done (by kernel_rfl) ?_ _
     have HF := hid hS.1
     clear hS
     go_wp2
     go_ret
     exact ⟨_,rfl,HO3.out,HF.out.below (Nat.le_refl _)⟩
    exact AllReadyH.nil
   exact AllReadyH.nil
  exact AllReadyH.nil
set_option maxHeartbeats 4000000 in
theorem beh_23 (op a b : Int) (n h : Nat) (l : List Int) (pl pb pe : Option Addr) (cl nb cb ne ce : Nat) (ot : Bool) (B : Nat) (w : World) (hB : B ≤ w.heap.size) (hl : LI B w (.slice pl l.length cl) l) (hnl : l.length + 200 ≤ 1000000000000) (hnn : n < 18446744073709551616) (hh : h < 18446744073709551616) :
  Calls Tryz.prog 232 #[.agg #[.int .i64 op,.int .i64 a,.int .i64 b,.int .u64 (n : Nat),.int .u64 (h : Nat),.slice pl l.length cl,.slice pb nb cb,.slice pe ne ce,.bool ot],.int .i64 23] w (BO w (lowL 8 n ++ lowL 8 h)) := by
 have HX0 := hid (CA.new w #[.int .i64 op,.int .i64 a,.int .i64 b,.int .u64 (n : Nat),.int .u64 (h : Nat),.slice pl l.length cl,.slice pb nb cb,.slice pe ne ce,.bool ot] 39)
 have HBX := hid ((Below.refl w.heap.size w).alloc (Nat.le_refl _) (.cells #[.int .i64 op,.int .i64 a,.int .i64 b,.int .u64 (n : Nat),.int .u64 (h : Nat),.slice pl l.length cl,.slice pb nb cb,.slice pe ne ce,.bool ot] 39))
 have HRX := hid ((RF.refl w.heap.size w).alloc (.cells #[.int .i64 op,.int .i64 a,.int .i64 b,.int .u64 (n : Nat),.int .u64 (h : Nat),.slice pl l.length cl,.slice pb nb cb,.slice pe ne ce,.bool ot] 39))
 have y0 := HX0.out.at (k := 0) (v := .int .i64 op) rfl
 have y1 := HX0.out.at (k := 1) (v := .int .i64 a) rfl
 have y2 := HX0.out.at (k := 2) (v := .int .i64 b) rfl
 have y3 := HX0.out.at (k := 3) (v := .int .u64 (n : Nat)) rfl
 have y4 := HX0.out.at (k := 4) (v := .int .u64 (h : Nat)) rfl
 have y5 := HX0.out.at (k := 5) (v := .slice pl l.length cl) rfl
 have y6 := HX0.out.at (k := 6) (v := .slice pb nb cb) rfl
 have y7 := HX0.out.at (k := 7) (v := .slice pe ne ce) rfl
 have y8 := HX0.out.at (k := 8) (v := .bool ot) rfl
 have hLI : ∀ W,Below B w W → LI B W (.slice pl l.length cl) l := fun W hW => hl.below hW
 have HLI := fun W (hW : Below w.heap.size w W) => hid (hLI W (hW.mono hB))
 have Hn := hid hnn
 have Hh := hid hh
 have HBB := hid hB
 have HSZ : Hid (w.heap.size ≤ w.heap.size) := Nat.le_refl _
 have HLN := hid hnl
 have q1 := uI_len a
 have q2 := uI_len b
 have q3 := usL_len l
 have q5 := uI_len l.length
 have HS0 : Hid (RF w.heap.size w (w.alloc (.cells #[.int .i64 op,.int .i64 a,.int .i64 b,.int .u64 (n : Nat),.int .u64 (h : Nat),.slice pl l.length cl,.slice pb nb cb,.slice pe ne ce,.bool ot] 39)) ∧ CA w.heap.size #[.int .i64 op,.int .i64 a,.int .i64 b,.int .u64 (n : Nat),.int .u64 (h : Nat),.slice pl l.length cl,.slice pb nb cb,.slice pe ne ce,.bool ot] 39 (w.alloc (.cells #[.int .i64 op,.int .i64 a,.int .i64 b,.int .u64 (n : Nat),.int .u64 (h : Nat),.slice pl l.length cl,.slice pb nb cb,.slice pe ne ce,.bool ot] 39))) := ⟨HRX.out,HX0.out⟩
 have HN := hid (show (lowL 8 n).length + (lowL 8 h).length ≤ 140737488355000 by rw [lowL_len 0 8 n,lowL_len 0 8 h]; omega)
 clear q1 q2 q3 q5 hl hnl hnn hh hB hLI
 go_enter Tryz.func232,Tryz.ntmps232
 go_upto_region 45 with fail
 have hS : RF w.heap.size w (w.alloc (.cells #[.int .i64 op,.int .i64 a,.int .i64 b,.int .u64 (n : Nat),.int .u64 (h : Nat),.slice pl l.length cl,.slice pb nb cb,.slice pe ne ce,.bool ot] 39)).drew ∧ CA w.heap.size #[.int .i64 op,.int .i64 a,.int .i64 b,.int .u64 (n : Nat),.int .u64 (h : Nat),.slice pl l.length cl,.slice pb nb cb,.slice pe ne ce,.bool ot] 39 (w.alloc (.cells #[.int .i64 op,.int .i64 a,.int .i64 b,.int .u64 (n : Nat),.int .u64 (h : Nat),.slice pl l.length cl,.slice pb nb cb,.slice pe ne ce,.bool ot] 39)).drew := ⟨HS0.out.1.drew,HS0.out.2⟩
 clear HS0
 refine wp_region_held_drew (S := fun W => RF w.heap.size w W ∧ CA w.heap.size #[.int .i64 op,.int .i64 a,.int .i64 b,.int .u64 (n : Nat),.int .u64 (h : Nat),.slice pl l.length cl,.slice pb nb cb,.slice pe ne ce,.bool ot] 39 W) (by kernel_rfl) hS (fun _ => ?_)
 generalize (w.alloc (.cells #[.int .i64 op,.int .i64 a,.int .i64 b,.int .u64 (n : Nat),.int .u64 (h : Nat),.slice pl l.length cl,.slice pb nb cb,.slice pe ne ce,.bool ot] 39)).drew = W at *
 refine wpAnyH_take (oi := ⟨_,_,_,_,_,_⟩) (i := 0) (v := .pointer (some ⟨w.heap.size,3,none⟩)) rfl (by kernel_rfl) (by kernel_rfl) (by kernel_rfl) (fun _ _ _ h => h) (Or.inl ⟨by rfl,?_⟩) (by assumption) ?_
 ·(intro W hSw; have x0 := hSw.2.at (k := 0) (v := .int .i64 op) rfl; have x1 := hSw.2.at (k := 1) (v := .int .i64 a) rfl; have x2 := hSw.2.at (k := 2) (v := .int .i64 b) rfl; have x3 := hSw.2.at (k := 3) (v := .int .u64 (n : Nat)) rfl; have x4 := hSw.2.at (k := 4) (v := .int .u64 (h : Nat)) rfl; have x5 := hSw.2.at (k := 5) (v := .slice pl l.length cl) rfl; have x6 := hSw.2.at (k := 6) (v := .slice pb nb cb) rfl; have x7 := hSw.2.at (k := 7) (v := .slice pe ne ce) rfl; have x8 := hSw.2.at (k := 8) (v := .bool ot) rfl; go_simp; try (with_reducible rfl))
 try simp only [Act.put,List.setIfInBounds_toArray,List.set_cons_zero,List.set_cons_succ]
 refine wpAnyH_take (oi := ⟨_,_,_,_,_,_⟩) (i := 1) (v := .int .u64 (n : Nat)) rfl (by kernel_rfl) (by kernel_rfl) (by kernel_rfl) (fun _ _ _ h => h) (Or.inl ⟨by rfl,?_⟩) (by assumption) ?_
 ·(intro W hSw; have x0 := hSw.2.at (k := 0) (v := .int .i64 op) rfl; have x1 := hSw.2.at (k := 1) (v := .int .i64 a) rfl; have x2 := hSw.2.at (k := 2) (v := .int .i64 b) rfl; have x3 := hSw.2.at (k := 3) (v := .int .u64 (n : Nat)) rfl; have x4 := hSw.2.at (k := 4) (v := .int .u64 (h : Nat)) rfl; have x5 := hSw.2.at (k := 5) (v := .slice pl l.length cl) rfl; have x6 := hSw.2.at (k := 6) (v := .slice pb nb cb) rfl; have x7 := hSw.2.at (k := 7) (v := .slice pe ne ce) rfl; have x8 := hSw.2.at (k := 8) (v := .bool ot) rfl; go_simp; try (with_reducible rfl))
 try simp only [Act.put,List.setIfInBounds_toArray,List.set_cons_zero,List.set_cons_succ]
 refine wpAnyH_take (oi := ⟨_,_,_,_,_,_⟩) (i := 3) (v := .pointer (some ⟨w.heap.size,4,none⟩)) rfl (by kernel_rfl) (by kernel_rfl) (by kernel_rfl) (fun _ _ _ h => h) (Or.inl ⟨by rfl,?_⟩) (by assumption) ?_
 ·(intro W hSw; have x0 := hSw.2.at (k := 0) (v := .int .i64 op) rfl; have x1 := hSw.2.at (k := 1) (v := .int .i64 a) rfl; have x2 := hSw.2.at (k := 2) (v := .int .i64 b) rfl; have x3 := hSw.2.at (k := 3) (v := .int .u64 (n : Nat)) rfl; have x4 := hSw.2.at (k := 4) (v := .int .u64 (h : Nat)) rfl; have x5 := hSw.2.at (k := 5) (v := .slice pl l.length cl) rfl; have x6 := hSw.2.at (k := 6) (v := .slice pb nb cb) rfl; have x7 := hSw.2.at (k := 7) (v := .slice pe ne ce) rfl; have x8 := hSw.2.at (k := 8) (v := .bool ot) rfl; go_simp; try (with_reducible rfl))
 try simp only [Act.put,List.setIfInBounds_toArray,List.set_cons_zero,List.set_cons_succ]
 refine wpAnyH_take (oi := ⟨_,_,_,_,_,_⟩) (i := 4) (v := .int .u64 (h : Nat)) rfl (by kernel_rfl) (by kernel_rfl) (by kernel_rfl) (fun _ _ _ h => h) (Or.inl ⟨by rfl,?_⟩) (by assumption) ?_
 ·(intro W hSw; have x0 := hSw.2.at (k := 0) (v := .int .i64 op) rfl; have x1 := hSw.2.at (k := 1) (v := .int .i64 a) rfl; have x2 := hSw.2.at (k := 2) (v := .int .i64 b) rfl; have x3 := hSw.2.at (k := 3) (v := .int .u64 (n : Nat)) rfl; have x4 := hSw.2.at (k := 4) (v := .int .u64 (h : Nat)) rfl; have x5 := hSw.2.at (k := 5) (v := .slice pl l.length cl) rfl; have x6 := hSw.2.at (k := 6) (v := .slice pb nb cb) rfl; have x7 := hSw.2.at (k := 7) (v := .slice pe ne ce) rfl; have x8 := hSw.2.at (k := 8) (v := .bool ot) rfl; go_simp; try (with_reducible rfl))
 try simp only [Act.put,List.setIfInBounds_toArray,List.set_cons_zero,List.set_cons_succ]
 refine wpAnyH_ready (rs := [2]) (by kernel_rfl) (by simp) ?_
 refine AllReadyH.cons (o := ⟨_,_,_,_,_,_⟩) rfl (fun K hK => ?_) ?_
 ·go_simp
  go_at_call 248
  (with_reducible refine (low_8 n Hn.out W).mono ?_)
  rintro e W1 ⟨v,rfl,ho,hb⟩
  obtain ⟨p1,m1,c1,rfl⟩ := own_slice ho
  have HO1 := hid (own_less ho (Nat.le_trans HSZ.out hS.1.size))
  replace hS := And.intro (hS.1.trans (RF.of hb)) (hS.2.below hb hS.2.lt)
  clear ho hb
  refine hK.out _ _ hS (fun _ => ?_)
  clear hK K
  try simp only [Act.put,List.setIfInBounds_toArray,List.set_cons_zero,List.set_cons_succ]
  refine wpAnyH_ready (rs := [5]) (by kernel_rfl) (by simp) ?_
  refine AllReadyH.cons (o := ⟨_,_,_,_,_,_⟩) rfl (fun K hK => ?_) ?_
  ·go_simp
   go_at_call 248
   (with_reducible refine (low_8 h Hh.out W1).mono ?_)
   rintro e W2 ⟨v,rfl,ho,hb⟩
   obtain ⟨p2,m2,c2,rfl⟩ := own_slice ho
   have HO2 := hid (own_less ho (Nat.le_trans HSZ.out hS.1.size))
   replace HO1 := hid (own_kept HO1.out hb)
   replace hS := And.intro (hS.1.trans (RF.of hb)) (hS.2.below hb hS.2.lt)
   clear ho hb
   refine hK.out _ _ hS (fun _ => ?_)
   clear hK K
   try simp only [Act.put,List.setIfInBounds_toArray,List.set_cons_zero,List.set_cons_succ]
   refine wpAnyH_ready (rs := [6]) (by kernel_rfl) (by simp) ?_
   refine AllReadyH.cons (o := ⟨_,_,_,_,_,_⟩) rfl (fun K hK => ?_) ?_
   ·refine append_rowS rfl (.tmp 143) (.tmp 146) rfl w.heap.size _ _ _ _ _ w HO1.out HO2.out HN.out (Nat.le_refl _) hS.1 rfl rfl ?_
    intro p3 m3 c3 W3 ho3 hr
    replace hS := And.intro (hS.1.trans hr) (hS.2.rf hr (by decide))
    have HO3 := hid ho3
    clear ho3 hr HO1 HO2
    refine hK.out _ _ hS (fun _ => ?_)
    clear hK K
    try simp only [Act.put,List.setIfInBounds_toArray,List.set_cons_zero,List.set_cons_succ]
    refine wpAnyH_take (oi := ⟨_,_,_,_,_,_⟩) (i := 7) (v := .slice p3 m3 c3) rfl (by kernel_rfl) (by kernel_rfl) (by kernel_rfl) (fun _ _ _ h => h) (Or.inl ⟨by rfl,?_⟩) (by assumption) ?_
    ·(intro W hSw; have x0 := hSw.2.at (k := 0) (v := .int .i64 op) rfl; have x1 := hSw.2.at (k := 1) (v := .int .i64 a) rfl; have x2 := hSw.2.at (k := 2) (v := .int .i64 b) rfl; have x3 := hSw.2.at (k := 3) (v := .int .u64 (n : Nat)) rfl; have x4 := hSw.2.at (k := 4) (v := .int .u64 (h : Nat)) rfl; have x5 := hSw.2.at (k := 5) (v := .slice pl l.length cl) rfl; have x6 := hSw.2.at (k := 6) (v := .slice pb nb cb) rfl; have x7 := hSw.2.at (k := 7) (v := .slice pe ne ce) rfl; have x8 := hSw.2.at (k := 8) (v := .bool ot) rfl; go_simp; try (with_reducible rfl))
    try simp only [Act.put,List.setIfInBounds_toArray,List.set_cons_zero,List.set_cons_succ]
    refine wpAnyH_done (by kernel_rfl) ?_ _
    have HF := hid hS.1
    clear hS
    go_wp2
    go_ret
    exact ⟨_,rfl,HO3.out,HF.out.below (Nat.le_refl _)⟩
   exact AllReadyH.nil
  exact AllReadyH.nil
 exact AllReadyH.nil
end Go.Proofs.YtjgeedgphcjhoaaGreat
namespace Go.Proofs.YtjgeedgphcjhoaaGreat
open Go.RowKit
set_option maxHeartbeats 4000000 in
theorem beh_26 (op a b : Int) (n h : Nat) (l : List Int) (pl pb pe : Option Addr) (cl nb cb ne ce : Nat) (ot : Bool) (B : Nat) (w : World) (hB : B ≤ w.heap.size) (hl : LI B w (.slice pl l.length cl) l) (hnl : l.length + 200 ≤ 1000000000000) (hnn : n < 18446744073709551616) (hh : h < 18446744073709551616) :
  Calls Tryz.prog 232 #[.agg #[.int .i64 op,.int .i64 a,.int .i64 b,.int .u64 (n : Nat),.int .u64 (h : Nat),.slice pl l.length cl,.slice pb nb cb,.slice pe ne ce,.bool ot],.int .i64 26] w (BO w (uI a ++ uI b ++ l.map byI)) := by
 have HX0 := hid (CA.new w #[.int .i64 op,.int .i64 a,.int .i64 b,.int .u64 (n : Nat),.int .u64 (h : Nat),.slice pl l.length cl,.slice pb nb cb,.slice pe ne ce,.bool ot] 39)
 have HBX := hid ((Below.refl w.heap.size w).alloc (Nat.le_refl _) (.cells #[.int .i64 op,.int .i64 a,.int .i64 b,.int .u64 (n : Nat),.int .u64 (h : Nat),.slice pl l.length cl,.slice pb nb cb,.slice pe ne ce,.bool ot] 39))
 have HRX := hid ((RF.refl w.heap.size w).alloc (.cells #[.int .i64 op,.int .i64 a,.int .i64 b,.int .u64 (n : Nat),.int .u64 (h : Nat),.slice pl l.length cl,.slice pb nb cb,.slice pe ne ce,.bool ot] 39))
 have y0 := HX0.out.at (k := 0) (v := .int .i64 op) rfl
 have y1 := HX0.out.at (k := 1) (v := .int .i64 a) rfl
 have y2 := HX0.out.at (k := 2) (v := .int .i64 b) rfl
 have y3 := HX0.out.at (k := 3) (v := .int .u64 (n : Nat)) rfl
 have y4 := HX0.out.at (k := 4) (v := .int .u64 (h : Nat)) rfl
 have y5 := HX0.out.at (k := 5) (v := .slice pl l.length cl) rfl
 have y6 := HX0.out.at (k := 6) (v := .slice pb nb cb) rfl
 have y7 := HX0.out.at (k := 7) (v := .slice pe ne ce) rfl
 have y8 := HX0.out.at (k := 8) (v := .bool ot) rfl
 have hLI : ∀ W,Below B w W → LI B W (.slice pl l.length cl) l := fun W hW => hl.below hW
 have HLI := fun W (hW : Below w.heap.size w W) => hid (hLI W (hW.mono hB))
 have Hn := hid hnn
 have Hh := hid hh
 have HBB := hid hB
 have HSZ : Hid (w.heap.size ≤ w.heap.size) := Nat.le_refl _
 have HLN := hid hnl
 have q1 := uI_len a
 have q2 := uI_len b
 have q3 := usL_len l
 have q5 := uI_len l.length
 have HS0 : Hid (RF w.heap.size w (w.alloc (.cells #[.int .i64 op,.int .i64 a,.int .i64 b,.int .u64 (n : Nat),.int .u64 (h : Nat),.slice pl l.length cl,.slice pb nb cb,.slice pe ne ce,.bool ot] 39)) ∧ CA w.heap.size #[.int .i64 op,.int .i64 a,.int .i64 b,.int .u64 (n : Nat),.int .u64 (h : Nat),.slice pl l.length cl,.slice pb nb cb,.slice pe ne ce,.bool ot] 39 (w.alloc (.cells #[.int .i64 op,.int .i64 a,.int .i64 b,.int .u64 (n : Nat),.int .u64 (h : Nat),.slice pl l.length cl,.slice pb nb cb,.slice pe ne ce,.bool ot] 39))) := ⟨HRX.out,HX0.out⟩
 have HN := hid (show (uI a).length + (uI b).length ≤ 140737488355000 by omega)
 have HN2 := hid (show (uI a ++ uI b).length + (l.map byI).length ≤ 140737488355000 by simp only [List.length_append,List.length_map]; omega)
 have HOC := fun W (hW : Below w.heap.size w W) => hid (octets_says l _ B W (HLI W hW).out (Nat.le_trans hB hW.size) (by omega))
 clear q1 q2 q3 q5 hl hnl hnn hh hB hLI
 go_enter Tryz.func232,Tryz.ntmps232
 go_upto_region 27 with fail
 have hS : RF w.heap.size w (w.alloc (.cells #[.int .i64 op,.int .i64 a,.int .i64 b,.int .u64 (n : Nat),.int .u64 (h : Nat),.slice pl l.length cl,.slice pb nb cb,.slice pe ne ce,.bool ot] 39)).drew ∧ CA w.heap.size #[.int .i64 op,.int .i64 a,.int .i64 b,.int .u64 (n : Nat),.int .u64 (h : Nat),.slice pl l.length cl,.slice pb nb cb,.slice pe ne ce,.bool ot] 39 (w.alloc (.cells #[.int .i64 op,.int .i64 a,.int .i64 b,.int .u64 (n : Nat),.int .u64 (h : Nat),.slice pl l.length cl,.slice pb nb cb,.slice pe ne ce,.bool ot] 39)).drew := ⟨HS0.out.1.drew,HS0.out.2⟩
 clear HS0
 refine wp_region_held_drew (S := fun W => RF w.heap.size w W ∧ CA w.heap.size #[.int .i64 op,.int .i64 a,.int .i64 b,.int .u64 (n : Nat),.int .u64 (h : Nat),.slice pl l.length cl,.slice pb nb cb,.slice pe ne ce,.bool ot] 39 W) (by kernel_rfl) hS (fun _ => ?_)
 generalize (w.alloc (.cells #[.int .i64 op,.int .i64 a,.int .i64 b,.int .u64 (n : Nat),.int .u64 (h : Nat),.slice pl l.length cl,.slice pb nb cb,.slice pe ne ce,.bool ot] 39)).drew = W at *
 refine wpAnyH_take (oi := ⟨_,_,_,_,_,_⟩) (i := 0) (v := .pointer (some ⟨w.heap.size,1,none⟩)) rfl (by kernel_rfl) (by kernel_rfl) (by kernel_rfl) (fun _ _ _ h => h) (Or.inl ⟨by rfl,?_⟩) (by assumption) ?_
 ·(intro W hSw; have x0 := hSw.2.at (k := 0) (v := .int .i64 op) rfl; have x1 := hSw.2.at (k := 1) (v := .int .i64 a) rfl; have x2 := hSw.2.at (k := 2) (v := .int .i64 b) rfl; have x3 := hSw.2.at (k := 3) (v := .int .u64 (n : Nat)) rfl; have x4 := hSw.2.at (k := 4) (v := .int .u64 (h : Nat)) rfl; have x5 := hSw.2.at (k := 5) (v := .slice pl l.length cl) rfl; have x6 := hSw.2.at (k := 6) (v := .slice pb nb cb) rfl; have x7 := hSw.2.at (k := 7) (v := .slice pe ne ce) rfl; have x8 := hSw.2.at (k := 8) (v := .bool ot) rfl; go_simp; try (with_reducible rfl))
 try simp only [Act.put,List.setIfInBounds_toArray,List.set_cons_zero,List.set_cons_succ]
 refine wpAnyH_take (oi := ⟨_,_,_,_,_,_⟩) (i := 1) (v := .int .i64 a) rfl (by kernel_rfl) (by kernel_rfl) (by kernel_rfl) (fun _ _ _ h => h) (Or.inl ⟨by rfl,?_⟩) (by assumption) ?_
 ·(intro W hSw; have x0 := hSw.2.at (k := 0) (v := .int .i64 op) rfl; have x1 := hSw.2.at (k := 1) (v := .int .i64 a) rfl; have x2 := hSw.2.at (k := 2) (v := .int .i64 b) rfl; have x3 := hSw.2.at (k := 3) (v := .int .u64 (n : Nat)) rfl; have x4 := hSw.2.at (k := 4) (v := .int .u64 (h : Nat)) rfl; have x5 := hSw.2.at (k := 5) (v := .slice pl l.length cl) rfl; have x6 := hSw.2.at (k := 6) (v := .slice pb nb cb) rfl; have x7 := hSw.2.at (k := 7) (v := .slice pe ne ce) rfl; have x8 := hSw.2.at (k := 8) (v := .bool ot) rfl; go_simp; try (with_reducible rfl))
 try simp only [Act.put,List.setIfInBounds_toArray,List.set_cons_zero,List.set_cons_succ]
 refine wpAnyH_take (oi := ⟨_,_,_,_,_,_⟩) (i := 3) (v := .pointer (some ⟨w.heap.size,2,none⟩)) rfl (by kernel_rfl) (by kernel_rfl) (by kernel_rfl) (fun _ _ _ h => h) (Or.inl ⟨by rfl,?_⟩) (by assumption) ?_
 ·(intro W hSw; have x0 := hSw.2.at (k := 0) (v := .int .i64 op) rfl; have x1 := hSw.2.at (k := 1) (v := .int .i64 a) rfl; have x2 := hSw.2.at (k := 2) (v := .int .i64 b) rfl; have x3 := hSw.2.at (k := 3) (v := .int .u64 (n : Nat)) rfl; have x4 := hSw.2.at (k := 4) (v := .int .u64 (h : Nat)) rfl; have x5 := hSw.2.at (k := 5) (v := .slice pl l.length cl) rfl; have x6 := hSw.2.at (k := 6) (v := .slice pb nb cb) rfl; have x7 := hSw.2.at (k := 7) (v := .slice pe ne ce) rfl; have x8 := hSw.2.at (k := 8) (v := .bool ot) rfl; go_simp; try (with_reducible rfl))
 try simp only [Act.put,List.setIfInBounds_toArray,List.set_cons_zero,List.set_cons_succ]
 refine wpAnyH_take (oi := ⟨_,_,_,_,_,_⟩) (i := 4) (v := .int .i64 b) rfl (by kernel_rfl) (by kernel_rfl) (by kernel_rfl) (fun _ _ _ h => h) (Or.inl ⟨by rfl,?_⟩) (by assumption) ?_
 ·(intro W hSw; have x0 := hSw.2.at (k := 0) (v := .int .i64 op) rfl; have x1 := hSw.2.at (k := 1) (v := .int .i64 a) rfl; have x2 := hSw.2.at (k := 2) (v := .int .i64 b) rfl; have x3 := hSw.2.at (k := 3) (v := .int .u64 (n : Nat)) rfl; have x4 := hSw.2.at (k := 4) (v := .int .u64 (h : Nat)) rfl; have x5 := hSw.2.at (k := 5) (v := .slice pl l.length cl) rfl; have x6 := hSw.2.at (k := 6) (v := .slice pb nb cb) rfl; have x7 := hSw.2.at (k := 7) (v := .slice pe ne ce) rfl; have x8 := hSw.2.at (k := 8) (v := .bool ot) rfl; go_simp; try (with_reducible rfl))
 try simp only [Act.put,List.setIfInBounds_toArray,List.set_cons_zero,List.set_cons_succ]
 refine wpAnyH_take (oi := ⟨_,_,_,_,_,_⟩) (i := 7) (v := .pointer (some ⟨w.heap.size,5,none⟩)) rfl (by kernel_rfl) (by kernel_rfl) (by kernel_rfl) (fun _ _ _ h => h) (Or.inl ⟨by rfl,?_⟩) (by assumption) ?_
 ·(intro W hSw; have x0 := hSw.2.at (k := 0) (v := .int .i64 op) rfl; have x1 := hSw.2.at (k := 1) (v := .int .i64 a) rfl; have x2 := hSw.2.at (k := 2) (v := .int .i64 b) rfl; have x3 := hSw.2.at (k := 3) (v := .int .u64 (n : Nat)) rfl; have x4 := hSw.2.at (k := 4) (v := .int .u64 (h : Nat)) rfl; have x5 := hSw.2.at (k := 5) (v := .slice pl l.length cl) rfl; have x6 := hSw.2.at (k := 6) (v := .slice pb nb cb) rfl; have x7 := hSw.2.at (k := 7) (v := .slice pe ne ce) rfl; have x8 := hSw.2.at (k := 8) (v := .bool ot) rfl; go_simp; try (with_reducible rfl))
 try simp only [Act.put,List.setIfInBounds_toArray,List.set_cons_zero,List.set_cons_succ]
 refine wpAnyH_take (oi := ⟨_,_,_,_,_,_⟩) (i := 8) (v := .slice pl l.length cl) rfl (by kernel_rfl) (by kernel_rfl) (by kernel_rfl) (fun _ _ _ h => h) (Or.inl ⟨by rfl,?_⟩) (by assumption) ?_
 ·(intro W hSw; have x0 := hSw.2.at (k := 0) (v := .int .i64 op) rfl; have x1 := hSw.2.at (k := 1) (v := .int .i64 a) rfl; have x2 := hSw.2.at (k := 2) (v := .int .i64 b) rfl; have x3 := hSw.2.at (k := 3) (v := .int .u64 (n : Nat)) rfl; have x4 := hSw.2.at (k := 4) (v := .int .u64 (h : Nat)) rfl; have x5 := hSw.2.at (k := 5) (v := .slice pl l.length cl) rfl; have x6 := hSw.2.at (k := 6) (v := .slice pb nb cb) rfl; have x7 := hSw.2.at (k := 7) (v := .slice pe ne ce) rfl; have x8 := hSw.2.at (k := 8) (v := .bool ot) rfl; go_simp; try (with_reducible rfl))
 try simp only [Act.put,List.setIfInBounds_toArray,List.set_cons_zero,List.set_cons_succ]
 refine wpAnyH_ready (rs := [2]) (by kernel_rfl) (by simp) ?_
 refine AllReadyH.cons (o := ⟨_,_,_,_,_,_⟩) rfl (fun K hK => ?_) ?_
 ·go_simp
  go_at_call 133
  (with_reducible refine (RU_says a W).mono ?_)
  rintro e W1 ⟨v,rfl,ho,hb⟩
  obtain ⟨p1,m1,c1,rfl⟩ := own_slice ho
  have HO1 := hid (own_less ho (Nat.le_trans HSZ.out hS.1.size))
  replace hS := And.intro (hS.1.trans (RF.of hb)) (hS.2.below hb hS.2.lt)
  clear ho hb
  refine hK.out _ _ hS (fun _ => ?_)
  clear hK K
  try simp only [Act.put,List.setIfInBounds_toArray,List.set_cons_zero,List.set_cons_succ]
  refine wpAnyH_ready (rs := [5]) (by kernel_rfl) (by simp) ?_
  refine AllReadyH.cons (o := ⟨_,_,_,_,_,_⟩) rfl (fun K hK => ?_) ?_
  ·go_simp
   go_at_call 133
   (with_reducible refine (RU_says b W1).mono ?_)
   rintro e W2 ⟨v,rfl,ho,hb⟩
   obtain ⟨p2,m2,c2,rfl⟩ := own_slice ho
   have HO2 := hid (own_less ho (Nat.le_trans HSZ.out hS.1.size))
   replace HO1 := hid (own_kept HO1.out hb)
   replace hS := And.intro (hS.1.trans (RF.of hb)) (hS.2.below hb hS.2.lt)
   clear ho hb
   refine hK.out _ _ hS (fun _ => ?_)
   clear hK K
   try simp only [Act.put,List.setIfInBounds_toArray,List.set_cons_zero,List.set_cons_succ]
   refine wpAnyH_ready (rs := [6]) (by kernel_rfl) (by simp) ?_
   refine AllReadyH.cons (o := ⟨_,_,_,_,_,_⟩) rfl (fun K hK => ?_) ?_
   ·refine append_rowS rfl (.tmp 86) (.tmp 89) rfl w.heap.size _ _ _ _ _ w HO1.out HO2.out HN.out (Nat.le_refl _) hS.1 rfl rfl ?_
    intro p3 m3 c3 W3 ho3 hr
    replace hS := And.intro (hS.1.trans hr) (hS.2.rf hr (by decide))
    have HO3 := hid ho3
    clear ho3 hr HO1 HO2
    refine hK.out _ _ hS (fun _ => ?_)
    clear hK K
    try simp only [Act.put,List.setIfInBounds_toArray,List.set_cons_zero,List.set_cons_succ]
    refine wpAnyH_ready (rs := [9]) (by kernel_rfl) (by simp) ?_
    refine AllReadyH.cons (o := ⟨_,_,_,_,_,_⟩) rfl (fun K hK => ?_) ?_
    ·go_simp
     go_at_call 202
     (with_reducible refine ((HOC W3 (hS.1.below (Nat.le_refl _))).out).mono ?_)
     rintro e W4 ⟨v,rfl,ho,hb⟩
     obtain ⟨p4,m4,c4,rfl⟩ := own_slice ho
     have HO4 := hid (own_less ho (Nat.le_trans HSZ.out hS.1.size))
     replace HO3 := hid (own_kept HO3.out hb)
     replace hS := And.intro (hS.1.trans (RF.of hb)) (hS.2.below hb hS.2.lt)
     clear ho hb
     refine hK.out _ _ hS (fun _ => ?_)
     clear hK K
     try simp only [Act.put,List.setIfInBounds_toArray,List.set_cons_zero,List.set_cons_succ]
     refine wpAnyH_ready (rs := [10]) (by kernel_rfl) (by simp) ?_
     refine AllReadyH.cons (o := ⟨_,_,_,_,_,_⟩) rfl (fun K hK => ?_) ?_
     ·refine append_rowS rfl (.tmp 90) (.tmp 93) rfl w.heap.size _ _ _ _ _ w HO3.out HO4.out HN2.out (Nat.le_refl _) hS.1 rfl rfl ?_
      intro p5 m5 c5 W5 ho3 hr
      replace hS := And.intro (hS.1.trans hr) (hS.2.rf hr (by decide))
      have HO5 := hid ho3
      clear ho3 hr HO3 HO4
      refine hK.out _ _ hS (fun _ => ?_)
      clear hK K
      try simp only [Act.put,List.setIfInBounds_toArray,List.set_cons_zero,List.set_cons_succ]
      refine wpAnyH_take (oi := ⟨_,_,_,_,_,_⟩) (i := 11) (v := .slice p5 m5 c5) rfl (by kernel_rfl) (by kernel_rfl) (by kernel_rfl) (fun _ _ _ h => h) (Or.inl ⟨by rfl,?_⟩) (by assumption) ?_
      ·(intro W hSw; have x0 := hSw.2.at (k := 0) (v := .int .i64 op) rfl; have x1 := hSw.2.at (k := 1) (v := .int .i64 a) rfl; have x2 := hSw.2.at (k := 2) (v := .int .i64 b) rfl; have x3 := hSw.2.at (k := 3) (v := .int .u64 (n : Nat)) rfl; have x4 := hSw.2.at (k := 4) (v := .int .u64 (h : Nat)) rfl; have x5 := hSw.2.at (k := 5) (v := .slice pl l.length cl) rfl; have x6 := hSw.2.at (k := 6) (v := .slice pb nb cb) rfl; have x7 := hSw.2.at (k := 7) (v := .slice pe ne ce) rfl; have x8 := hSw.2.at (k := 8) (v := .bool ot) rfl; go_simp; try (with_reducible rfl))
      try simp only [Act.put,List.setIfInBounds_toArray,List.set_cons_zero,List.set_cons_succ]
      refine wpAnyH_done (by kernel_rfl) ?_ _
      have HF := hid hS.1
      clear hS
      go_wp2
      go_ret
      exact ⟨_,rfl,HO5.out,HF.out.below (Nat.le_refl _)⟩
     exact AllReadyH.nil
    exact AllReadyH.nil
   exact AllReadyH.nil
  exact AllReadyH.nil
 exact AllReadyH.nil
set_option maxHeartbeats 4000000 in
theorem beh_6 (op a b : Int) (n h : Nat) (l : List Int) (pl pb pe : Option Addr) (cl nb cb ne ce : Nat) (ot : Bool) (B : Nat) (w : World) (hB : B ≤ w.heap.size) (hl : LI B w (.slice pl l.length cl) l) (hnl : l.length + 200 ≤ 1000000000000) (hnn : n < 18446744073709551616) (hh : h < 18446744073709551616) :
  Calls Tryz.prog 232 #[.agg #[.int .i64 op,.int .i64 a,.int .i64 b,.int .u64 (n : Nat),.int .u64 (h : Nat),.slice pl l.length cl,.slice pb nb cb,.slice pe ne ce,.bool ot],.int .i64 6] w (BO w (uI l.length ++ l.map byI)) := by
 have HX0 := hid (CA.new w #[.int .i64 op,.int .i64 a,.int .i64 b,.int .u64 (n : Nat),.int .u64 (h : Nat),.slice pl l.length cl,.slice pb nb cb,.slice pe ne ce,.bool ot] 39)
 have HBX := hid ((Below.refl w.heap.size w).alloc (Nat.le_refl _) (.cells #[.int .i64 op,.int .i64 a,.int .i64 b,.int .u64 (n : Nat),.int .u64 (h : Nat),.slice pl l.length cl,.slice pb nb cb,.slice pe ne ce,.bool ot] 39))
 have HRX := hid ((RF.refl w.heap.size w).alloc (.cells #[.int .i64 op,.int .i64 a,.int .i64 b,.int .u64 (n : Nat),.int .u64 (h : Nat),.slice pl l.length cl,.slice pb nb cb,.slice pe ne ce,.bool ot] 39))
 have y0 := HX0.out.at (k := 0) (v := .int .i64 op) rfl
 have y1 := HX0.out.at (k := 1) (v := .int .i64 a) rfl
 have y2 := HX0.out.at (k := 2) (v := .int .i64 b) rfl
 have y3 := HX0.out.at (k := 3) (v := .int .u64 (n : Nat)) rfl
 have y4 := HX0.out.at (k := 4) (v := .int .u64 (h : Nat)) rfl
 have y5 := HX0.out.at (k := 5) (v := .slice pl l.length cl) rfl
 have y6 := HX0.out.at (k := 6) (v := .slice pb nb cb) rfl
 have y7 := HX0.out.at (k := 7) (v := .slice pe ne ce) rfl
 have y8 := HX0.out.at (k := 8) (v := .bool ot) rfl
 have hLI : ∀ W,Below B w W → LI B W (.slice pl l.length cl) l := fun W hW => hl.below hW
 have HLI := fun W (hW : Below w.heap.size w W) => hid (hLI W (hW.mono hB))
 have Hn := hid hnn
 have Hh := hid hh
 have HBB := hid hB
 have HSZ : Hid (w.heap.size ≤ w.heap.size) := Nat.le_refl _
 have HLN := hid hnl
 have q1 := uI_len a
 have q2 := uI_len b
 have q3 := usL_len l
 have q5 := uI_len l.length
 have HS0 : Hid (RF w.heap.size w (w.alloc (.cells #[.int .i64 op,.int .i64 a,.int .i64 b,.int .u64 (n : Nat),.int .u64 (h : Nat),.slice pl l.length cl,.slice pb nb cb,.slice pe ne ce,.bool ot] 39)) ∧ CA w.heap.size #[.int .i64 op,.int .i64 a,.int .i64 b,.int .u64 (n : Nat),.int .u64 (h : Nat),.slice pl l.length cl,.slice pb nb cb,.slice pe ne ce,.bool ot] 39 (w.alloc (.cells #[.int .i64 op,.int .i64 a,.int .i64 b,.int .u64 (n : Nat),.int .u64 (h : Nat),.slice pl l.length cl,.slice pb nb cb,.slice pe ne ce,.bool ot] 39))) := ⟨HRX.out,HX0.out⟩
 have HN := hid (show (l.map byI).length + 20 ≤ 140737488355000 by simp only [List.length_map]; omega)
 have HOC := fun W (hW : Below w.heap.size w W) => hid (octets_says l _ B W (HLI W hW).out (Nat.le_trans hB hW.size) (by omega))
 clear q1 q2 q3 q5 hl hnl hnn hh hB hLI
 go_enter Tryz.func232,Tryz.ntmps232
 go_upto_region 29 with fail
 have hS : RF w.heap.size w (w.alloc (.cells #[.int .i64 op,.int .i64 a,.int .i64 b,.int .u64 (n : Nat),.int .u64 (h : Nat),.slice pl l.length cl,.slice pb nb cb,.slice pe ne ce,.bool ot] 39)).drew ∧ CA w.heap.size #[.int .i64 op,.int .i64 a,.int .i64 b,.int .u64 (n : Nat),.int .u64 (h : Nat),.slice pl l.length cl,.slice pb nb cb,.slice pe ne ce,.bool ot] 39 (w.alloc (.cells #[.int .i64 op,.int .i64 a,.int .i64 b,.int .u64 (n : Nat),.int .u64 (h : Nat),.slice pl l.length cl,.slice pb nb cb,.slice pe ne ce,.bool ot] 39)).drew := ⟨HS0.out.1.drew,HS0.out.2⟩
 clear HS0
 refine wp_region_held_drew (S := fun W => RF w.heap.size w W ∧ CA w.heap.size #[.int .i64 op,.int .i64 a,.int .i64 b,.int .u64 (n : Nat),.int .u64 (h : Nat),.slice pl l.length cl,.slice pb nb cb,.slice pe ne ce,.bool ot] 39 W) (by kernel_rfl) hS (fun _ => ?_)
 generalize (w.alloc (.cells #[.int .i64 op,.int .i64 a,.int .i64 b,.int .u64 (n : Nat),.int .u64 (h : Nat),.slice pl l.length cl,.slice pb nb cb,.slice pe ne ce,.bool ot] 39)).drew = W at *
 refine wpAnyH_take (oi := ⟨_,_,_,_,_,_⟩) (i := 0) (v := .pointer (some ⟨w.heap.size,5,none⟩)) rfl (by kernel_rfl) (by kernel_rfl) (by kernel_rfl) (fun _ _ _ h => h) (Or.inl ⟨by rfl,?_⟩) (by assumption) ?_
 ·(intro W hSw; have x0 := hSw.2.at (k := 0) (v := .int .i64 op) rfl; have x1 := hSw.2.at (k := 1) (v := .int .i64 a) rfl; have x2 := hSw.2.at (k := 2) (v := .int .i64 b) rfl; have x3 := hSw.2.at (k := 3) (v := .int .u64 (n : Nat)) rfl; have x4 := hSw.2.at (k := 4) (v := .int .u64 (h : Nat)) rfl; have x5 := hSw.2.at (k := 5) (v := .slice pl l.length cl) rfl; have x6 := hSw.2.at (k := 6) (v := .slice pb nb cb) rfl; have x7 := hSw.2.at (k := 7) (v := .slice pe ne ce) rfl; have x8 := hSw.2.at (k := 8) (v := .bool ot) rfl; go_simp; try (with_reducible rfl))
 try simp only [Act.put,List.setIfInBounds_toArray,List.set_cons_zero,List.set_cons_succ]
 refine wpAnyH_take (oi := ⟨_,_,_,_,_,_⟩) (i := 1) (v := .slice pl l.length cl) rfl (by kernel_rfl) (by kernel_rfl) (by kernel_rfl) (fun _ _ _ h => h) (Or.inl ⟨by rfl,?_⟩) (by assumption) ?_
 ·(intro W hSw; have x0 := hSw.2.at (k := 0) (v := .int .i64 op) rfl; have x1 := hSw.2.at (k := 1) (v := .int .i64 a) rfl; have x2 := hSw.2.at (k := 2) (v := .int .i64 b) rfl; have x3 := hSw.2.at (k := 3) (v := .int .u64 (n : Nat)) rfl; have x4 := hSw.2.at (k := 4) (v := .int .u64 (h : Nat)) rfl; have x5 := hSw.2.at (k := 5) (v := .slice pl l.length cl) rfl; have x6 := hSw.2.at (k := 6) (v := .slice pb nb cb) rfl; have x7 := hSw.2.at (k := 7) (v := .slice pe ne ce) rfl; have x8 := hSw.2.at (k := 8) (v := .bool ot) rfl; go_simp; try (with_reducible rfl))
 try simp only [Act.put,List.setIfInBounds_toArray,List.set_cons_zero,List.set_cons_succ]
 refine wpAnyH_take (oi := ⟨_,_,_,_,_,_⟩) (i := 2) (v := .int .i64 l.length) rfl (by kernel_rfl) (by kernel_rfl) (by kernel_rfl) (fun _ _ _ h => h) (Or.inl ⟨by rfl,?_⟩) (by assumption) ?_
 ·(intro W hSw; have x0 := hSw.2.at (k := 0) (v := .int .i64 op) rfl; have x1 := hSw.2.at (k := 1) (v := .int .i64 a) rfl; have x2 := hSw.2.at (k := 2) (v := .int .i64 b) rfl; have x3 := hSw.2.at (k := 3) (v := .int .u64 (n : Nat)) rfl; have x4 := hSw.2.at (k := 4) (v := .int .u64 (h : Nat)) rfl; have x5 := hSw.2.at (k := 5) (v := .slice pl l.length cl) rfl; have x6 := hSw.2.at (k := 6) (v := .slice pb nb cb) rfl; have x7 := hSw.2.at (k := 7) (v := .slice pe ne ce) rfl; have x8 := hSw.2.at (k := 8) (v := .bool ot) rfl; go_simp; try (with_reducible rfl))
 try simp only [Act.put,List.setIfInBounds_toArray,List.set_cons_zero,List.set_cons_succ]
 refine wpAnyH_take (oi := ⟨_,_,_,_,_,_⟩) (i := 3) (v := .pointer (some ⟨w.heap.size,5,none⟩)) rfl (by kernel_rfl) (by kernel_rfl) (by kernel_rfl) (fun _ _ _ h => h) (Or.inl ⟨by rfl,?_⟩) (by assumption) ?_
 ·(intro W hSw; have x0 := hSw.2.at (k := 0) (v := .int .i64 op) rfl; have x1 := hSw.2.at (k := 1) (v := .int .i64 a) rfl; have x2 := hSw.2.at (k := 2) (v := .int .i64 b) rfl; have x3 := hSw.2.at (k := 3) (v := .int .u64 (n : Nat)) rfl; have x4 := hSw.2.at (k := 4) (v := .int .u64 (h : Nat)) rfl; have x5 := hSw.2.at (k := 5) (v := .slice pl l.length cl) rfl; have x6 := hSw.2.at (k := 6) (v := .slice pb nb cb) rfl; have x7 := hSw.2.at (k := 7) (v := .slice pe ne ce) rfl; have x8 := hSw.2.at (k := 8) (v := .bool ot) rfl; go_simp; try (with_reducible rfl))
 try simp only [Act.put,List.setIfInBounds_toArray,List.set_cons_zero,List.set_cons_succ]
 refine wpAnyH_take (oi := ⟨_,_,_,_,_,_⟩) (i := 4) (v := .slice pl l.length cl) rfl (by kernel_rfl) (by kernel_rfl) (by kernel_rfl) (fun _ _ _ h => h) (Or.inl ⟨by rfl,?_⟩) (by assumption) ?_
 ·(intro W hSw; have x0 := hSw.2.at (k := 0) (v := .int .i64 op) rfl; have x1 := hSw.2.at (k := 1) (v := .int .i64 a) rfl; have x2 := hSw.2.at (k := 2) (v := .int .i64 b) rfl; have x3 := hSw.2.at (k := 3) (v := .int .u64 (n : Nat)) rfl; have x4 := hSw.2.at (k := 4) (v := .int .u64 (h : Nat)) rfl; have x5 := hSw.2.at (k := 5) (v := .slice pl l.length cl) rfl; have x6 := hSw.2.at (k := 6) (v := .slice pb nb cb) rfl; have x7 := hSw.2.at (k := 7) (v := .slice pe ne ce) rfl; have x8 := hSw.2.at (k := 8) (v := .bool ot) rfl; go_simp; try (with_reducible rfl))
 try simp only [Act.put,List.setIfInBounds_toArray,List.set_cons_zero,List.set_cons_succ]
 refine wpAnyH_ready (rs := [5]) (by kernel_rfl) (by simp) ?_
 refine AllReadyH.cons (o := ⟨_,_,_,_,_,_⟩) rfl (fun K hK => ?_) ?_
 ·go_simp
  go_at_call 202
  (with_reducible refine ((HOC W (hS.1.below (Nat.le_refl _))).out).mono ?_)
  rintro e W1 ⟨v,rfl,ho,hb⟩
  obtain ⟨p1,m1,c1,rfl⟩ := own_slice ho
  have HO1 := hid (own_less ho (Nat.le_trans HSZ.out hS.1.size))
  replace hS := And.intro (hS.1.trans (RF.of hb)) (hS.2.below hb hS.2.lt)
  clear ho hb
  refine hK.out _ _ hS (fun _ => ?_)
  clear hK K
  try simp only [Act.put,List.setIfInBounds_toArray,List.set_cons_zero,List.set_cons_succ]
  refine wpAnyH_ready (rs := [6]) (by kernel_rfl) (by simp) ?_
  refine AllReadyH.cons (o := ⟨_,_,_,_,_,_⟩) rfl (fun K hK => ?_) ?_
  ·go_simp
   go_at_call 135
   (with_reducible refine (listed_says l.length _ (l.map byI) w.heap.size W1 HO1.out HN.out).mono ?_)
   rintro e W2 ⟨v,rfl,ho,hb⟩
   obtain ⟨p2,m2,c2,rfl⟩ := own_slice ho
   have HO2 := hid (own_less ho (Nat.le_trans HSZ.out hS.1.size))
   replace hS := And.intro (hS.1.trans (RF.of hb)) (hS.2.below hb hS.2.lt)
   clear ho hb
   refine hK.out _ _ hS (fun _ => ?_)
   clear hK K
   try simp only [Act.put,List.setIfInBounds_toArray,List.set_cons_zero,List.set_cons_succ]
   refine wpAnyH_take (oi := ⟨_,_,_,_,_,_⟩) (i := 7) (v := .slice p2 m2 c2) rfl (by kernel_rfl) (by kernel_rfl) (by kernel_rfl) (fun _ _ _ h => h) (Or.inl ⟨by rfl,?_⟩) (by assumption) ?_
   ·(intro W hSw; have x0 := hSw.2.at (k := 0) (v := .int .i64 op) rfl; have x1 := hSw.2.at (k := 1) (v := .int .i64 a) rfl; have x2 := hSw.2.at (k := 2) (v := .int .i64 b) rfl; have x3 := hSw.2.at (k := 3) (v := .int .u64 (n : Nat)) rfl; have x4 := hSw.2.at (k := 4) (v := .int .u64 (h : Nat)) rfl; have x5 := hSw.2.at (k := 5) (v := .slice pl l.length cl) rfl; have x6 := hSw.2.at (k := 6) (v := .slice pb nb cb) rfl; have x7 := hSw.2.at (k := 7) (v := .slice pe ne ce) rfl; have x8 := hSw.2.at (k := 8) (v := .bool ot) rfl; go_simp; try (with_reducible rfl))
   try simp only [Act.put,List.setIfInBounds_toArray,List.set_cons_zero,List.set_cons_succ]
   refine wpAnyH_done (by kernel_rfl) ?_ _
   have HF := hid hS.1
   clear hS
   go_wp2
   go_ret
   exact ⟨_,rfl,HO2.out,HF.out.below (Nat.le_refl _)⟩
  exact AllReadyH.nil
 exact AllReadyH.nil
end Go.Proofs.YtjgeedgphcjhoaaGreat
