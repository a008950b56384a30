/-
  RBlk: merged, what the law does not reach left out (each text says what it holds where it lies in wip). No condition.
-/
import Derived.Test.YtjgeedgphcjhoaaGreatC04
import Derived.Deep.RegionHeld3
import Derived.Deep.DeepCutAuto
set_option linter.unusedSimpArgs false
set_option linter.unusedVariables false
set_option maxRecDepth 100000
namespace Go.Proofs.YtjgeedgphcjhoaaGreat
open Go.RowKit
set_option maxHeartbeats 8000000 in
theorem rblk_0f (op b : Int) (n h : Nat) (pl pb pe : Option Addr) (nl cl nb cb ne ce : Nat) (w : World) (hb : i64C b) (eb ee : List UInt8) (hn : eb.length + ee.length + 100 ≤ 140737488355000)
  (h1 : ∀ W,Below w.heap.size w W → Calls Tryz.prog 139 #[.slice pb nb cb] W (BO W eb)) (h2 : ∀ W,Below w.heap.size w W → Calls Tryz.prog 139 #[.slice pe ne ce] W (BO W ee)) :
  Calls Tryz.prog 232 #[.agg #[.int .i64 op,.int .i64 0,.int .i64 b,.int .u64 (n : Nat),.int .u64 (h : Nat),.slice pl nl cl,.slice pb nb cb,.slice pe ne ce,.bool false],.int .i64 1] w (BO w ([64] ++ eb ++ [11])) := by
 have HB1 := fun W hW => hid (h1 W hW)
 have HB2 := fun W hW => hid (h2 W hW)
 have HX0 := hid (CA.new w #[.int .i64 op,.int .i64 0,.int .i64 b,.int .u64 (n : Nat),.int .u64 (h : Nat),.slice pl nl cl,.slice pb nb cb,.slice pe ne ce,.bool false] 39)
 have HRX := hid ((RF.refl w.heap.size w).alloc (.cells #[.int .i64 op,.int .i64 0,.int .i64 b,.int .u64 (n : Nat),.int .u64 (h : Nat),.slice pl nl cl,.slice pb nb cb,.slice pe ne ce,.bool false] 39))
 have y0 := HX0.out.at (k := 0) (v := .int .i64 op) rfl
 have y1 := HX0.out.at (k := 1) (v := .int .i64 0) rfl
 have y2 := HX0.out.at (k := 2) (v := .int .i64 b) rfl
 have y3 := HX0.out.at (k := 3) (v := .int .u64 (n : Nat)) rfl
 have y4 := HX0.out.at (k := 4) (v := .int .u64 (h : Nat)) rfl
 have y5 := HX0.out.at (k := 5) (v := .slice pl nl cl) rfl
 have y6 := HX0.out.at (k := 6) (v := .slice pb nb cb) rfl
 have y7 := HX0.out.at (k := 7) (v := .slice pe ne ce) rfl
 have y8 := HX0.out.at (k := 8) (v := .bool false) rfl
 have HSZ : Hid (w.heap.size ≤ w.heap.size) := Nat.le_refl _
 have HSB := hid (show -9223372036854775808 ≤ b ∧ b ≤ 9223372036854775807 from ⟨hb.1,by have := hb.2; omega⟩)
 have q1 := slist_len b HSB.out
 have HNA := hid (show ([64]).length + eb.length ≤ 140737488355000 by first | omega | (simp only [List.length_cons,List.length_nil]; omega))
 have HNZ := hid (show ([64] ++ eb).length + ([11] : List UInt8).length ≤ 140737488355000 by simp only [List.length_append,List.length_cons,List.length_nil]; omega)
 clear h1 h2 hb hn q1
 go_enter Tryz.func232,Tryz.ntmps232
 go_upto_region 10 with fail
 clear y0 y1 y2 y3 y4 y5 y6 y7 y8
 have ht := own_litc (w.alloc (.cells #[.int .i64 op,.int .i64 0,.int .i64 b,.int .u64 (n : Nat),.int .u64 (h : Nat),.slice pl nl cl,.slice pb nb cb,.slice pe ne ce,.bool false] 39)) 64 64 rfl
 rw [size_al] at ht
 have HT := hid (own_less ht (Nat.le_succ _))
 have HF := hid (HRX.out.alloc (.cells #[.int .u8 64] 5))
 have HX := hid (HX0.out.alloc (.cells #[.int .u8 64] 5))
 clear ht
 generalize ((w.alloc (.cells #[.int .i64 op,.int .i64 0,.int .i64 b,.int .u64 (n : Nat),.int .u64 (h : Nat),.slice pl nl cl,.slice pb nb cb,.slice pe ne ce,.bool false] 39)).alloc (.cells #[.int .u8 64] 5)) = w1 at *
 generalize hp0 : (some (⟨w.heap.size + 1,0,none⟩ : Addr)) = p0 at *
 clear hp0
 have y0 := HX.out.at (k := 0) (v := .int .i64 op) rfl
 have y1 := HX.out.at (k := 1) (v := .int .i64 0) rfl
 have y2 := HX.out.at (k := 2) (v := .int .i64 b) rfl
 have y3 := HX.out.at (k := 3) (v := .int .u64 (n : Nat)) rfl
 have y4 := HX.out.at (k := 4) (v := .int .u64 (h : Nat)) rfl
 have y5 := HX.out.at (k := 5) (v := .slice pl nl cl) rfl
 have y6 := HX.out.at (k := 6) (v := .slice pb nb cb) rfl
 have y7 := HX.out.at (k := 7) (v := .slice pe ne ce) rfl
 have y8 := HX.out.at (k := 8) (v := .bool false) rfl
 go_wp2_with (first
  | (go_at_call 139; (with_reducible refine (HB1 _ (HF.out.below (Nat.le_refl _))).out.mono ?_); rintro e w2 ⟨v,rfl,ho,hb⟩; obtain ⟨p1,m1,c1,rfl⟩ := own_slice ho; have HO1 := hid ho; have HT1 := hid (own_kept HT.out hb); have HF1 := hid (HF.out.trans (RF.of hb)); have HX1 := hid (HX.out.below hb HX.out.lt); clear ho hb)
  | (at_builtin; refine append_rowW rfl _ _ rfl w.heap.size _ _ _ _ _ w2 HT1.out HO1.out HNA.out HF1.out.size (RF.refl _ _) rfl rfl ?_; intro p2 m2 c2 w3 ho3 hr; have HT2 := hid ho3; have HF2 := hid (HF1.out.trans hr); have HX2 := hid (HX1.out.rf hr (by decide)); have x0 := HX2.out.at (k := 0) (v := .int .i64 op) rfl; have x1 := HX2.out.at (k := 1) (v := .int .i64 0) rfl; have x2 := HX2.out.at (k := 2) (v := .int .i64 b) rfl; have x3 := HX2.out.at (k := 3) (v := .int .u64 (n : Nat)) rfl; have x4 := HX2.out.at (k := 4) (v := .int .u64 (h : Nat)) rfl; have x5 := HX2.out.at (k := 5) (v := .slice pl nl cl) rfl; have x6 := HX2.out.at (k := 6) (v := .slice pb nb cb) rfl; have x7 := HX2.out.at (k := 7) (v := .slice pe ne ce) rfl; have x8 := HX2.out.at (k := 8) (v := .bool false) rfl; clear ho3 hr)
  | (at_builtin; refine append_rowW rfl _ _ rfl w.heap.size _ _ _ _ _ w (own_kept HT2.out ((Below.refl _ _).alloc (Nat.le_refl _) _)) (own_litc w3 11 11 rfl) HNZ.out (Nat.le_refl _) (HF2.out.alloc _) rfl rfl ?_; intro p9 m9 c9 w9 ho3 hr; have HT9 := hid ho3; have HF9 := hid hr; clear ho3 hr))
 go_ret
 exact ⟨_,rfl,HT9.out,HF9.out.below (Nat.le_refl _)⟩
set_option maxHeartbeats 8000000 in
theorem rblk_0t (op b : Int) (n h : Nat) (pl pb pe : Option Addr) (nl cl nb cb ne ce : Nat) (w : World) (hb : i64C b) (eb ee : List UInt8) (hn : eb.length + ee.length + 100 ≤ 140737488355000)
  (h1 : ∀ W,Below w.heap.size w W → Calls Tryz.prog 139 #[.slice pb nb cb] W (BO W eb)) (h2 : ∀ W,Below w.heap.size w W → Calls Tryz.prog 139 #[.slice pe ne ce] W (BO W ee)) :
  Calls Tryz.prog 232 #[.agg #[.int .i64 op,.int .i64 0,.int .i64 b,.int .u64 (n : Nat),.int .u64 (h : Nat),.slice pl nl cl,.slice pb nb cb,.slice pe ne ce,.bool true],.int .i64 1] w (BO w ([64] ++ eb ++ [5] ++ ee ++ [11])) := by
 have HB1 := fun W hW => hid (h1 W hW)
 have HB2 := fun W hW => hid (h2 W hW)
 have HX0 := hid (CA.new w #[.int .i64 op,.int .i64 0,.int .i64 b,.int .u64 (n : Nat),.int .u64 (h : Nat),.slice pl nl cl,.slice pb nb cb,.slice pe ne ce,.bool true] 39)
 have HRX := hid ((RF.refl w.heap.size w).alloc (.cells #[.int .i64 op,.int .i64 0,.int .i64 b,.int .u64 (n : Nat),.int .u64 (h : Nat),.slice pl nl cl,.slice pb nb cb,.slice pe ne ce,.bool true] 39))
 have y0 := HX0.out.at (k := 0) (v := .int .i64 op) rfl
 have y1 := HX0.out.at (k := 1) (v := .int .i64 0) rfl
 have y2 := HX0.out.at (k := 2) (v := .int .i64 b) rfl
 have y3 := HX0.out.at (k := 3) (v := .int .u64 (n : Nat)) rfl
 have y4 := HX0.out.at (k := 4) (v := .int .u64 (h : Nat)) rfl
 have y5 := HX0.out.at (k := 5) (v := .slice pl nl cl) rfl
 have y6 := HX0.out.at (k := 6) (v := .slice pb nb cb) rfl
 have y7 := HX0.out.at (k := 7) (v := .slice pe ne ce) rfl
 have y8 := HX0.out.at (k := 8) (v := .bool true) rfl
 have HSZ : Hid (w.heap.size ≤ w.heap.size) := Nat.le_refl _
 have HSB := hid (show -9223372036854775808 ≤ b ∧ b ≤ 9223372036854775807 from ⟨hb.1,by have := hb.2; omega⟩)
 have q1 := slist_len b HSB.out
 have HNA := hid (show ([64]).length + eb.length ≤ 140737488355000 by first | omega | (simp only [List.length_cons,List.length_nil]; omega))
 have HNB := hid (show ([64] ++ eb).length + ([5] : List UInt8).length ≤ 140737488355000 by simp only [List.length_append,List.length_cons,List.length_nil]; omega)
 have HNC := hid (show ([64] ++ eb ++ [5]).length + ee.length ≤ 140737488355000 by simp only [List.length_append,List.length_cons,List.length_nil]; omega)
 have HNZ := hid (show ([64] ++ eb ++ [5] ++ ee).length + ([11] : List UInt8).length ≤ 140737488355000 by simp only [List.length_append,List.length_cons,List.length_nil]; omega)
 clear h1 h2 hb hn q1
 go_enter Tryz.func232,Tryz.ntmps232
 go_upto_region 10 with fail
 clear y0 y1 y2 y3 y4 y5 y6 y7 y8
 have ht := own_litc (w.alloc (.cells #[.int .i64 op,.int .i64 0,.int .i64 b,.int .u64 (n : Nat),.int .u64 (h : Nat),.slice pl nl cl,.slice pb nb cb,.slice pe ne ce,.bool true] 39)) 64 64 rfl
 rw [size_al] at ht
 have HT := hid (own_less ht (Nat.le_succ _))
 have HF := hid (HRX.out.alloc (.cells #[.int .u8 64] 5))
 have HX := hid (HX0.out.alloc (.cells #[.int .u8 64] 5))
 clear ht
 generalize ((w.alloc (.cells #[.int .i64 op,.int .i64 0,.int .i64 b,.int .u64 (n : Nat),.int .u64 (h : Nat),.slice pl nl cl,.slice pb nb cb,.slice pe ne ce,.bool true] 39)).alloc (.cells #[.int .u8 64] 5)) = w1 at *
 generalize hp0 : (some (⟨w.heap.size + 1,0,none⟩ : Addr)) = p0 at *
 clear hp0
 have y0 := HX.out.at (k := 0) (v := .int .i64 op) rfl
 have y1 := HX.out.at (k := 1) (v := .int .i64 0) rfl
 have y2 := HX.out.at (k := 2) (v := .int .i64 b) rfl
 have y3 := HX.out.at (k := 3) (v := .int .u64 (n : Nat)) rfl
 have y4 := HX.out.at (k := 4) (v := .int .u64 (h : Nat)) rfl
 have y5 := HX.out.at (k := 5) (v := .slice pl nl cl) rfl
 have y6 := HX.out.at (k := 6) (v := .slice pb nb cb) rfl
 have y7 := HX.out.at (k := 7) (v := .slice pe ne ce) rfl
 have y8 := HX.out.at (k := 8) (v := .bool true) rfl
 go_upto_region 12 with (first
  | (go_at_call 139; (with_reducible refine (HB1 _ (HF.out.below (Nat.le_refl _))).out.mono ?_); rintro e w2 ⟨v,rfl,ho,hb⟩; obtain ⟨p1,m1,c1,rfl⟩ := own_slice ho; have HO1 := hid ho; have HT1 := hid (own_kept HT.out hb); have HF1 := hid (HF.out.trans (RF.of hb)); have HX1 := hid (HX.out.below hb HX.out.lt); clear ho hb)
  | (at_builtin; refine append_rowW rfl _ _ rfl w.heap.size _ _ _ _ _ w2 HT1.out HO1.out HNA.out HF1.out.size (RF.refl _ _) rfl rfl ?_; intro p2 m2 c2 w3 ho3 hr; have HT2 := hid ho3; have HF2 := hid (HF1.out.trans hr); have HX2 := hid (HX1.out.rf hr (by decide)); have x0 := HX2.out.at (k := 0) (v := .int .i64 op) rfl; have x1 := HX2.out.at (k := 1) (v := .int .i64 0) rfl; have x2 := HX2.out.at (k := 2) (v := .int .i64 b) rfl; have x3 := HX2.out.at (k := 3) (v := .int .u64 (n : Nat)) rfl; have x4 := HX2.out.at (k := 4) (v := .int .u64 (h : Nat)) rfl; have x5 := HX2.out.at (k := 5) (v := .slice pl nl cl) rfl; have x6 := HX2.out.at (k := 6) (v := .slice pb nb cb) rfl; have x7 := HX2.out.at (k := 7) (v := .slice pe ne ce) rfl; have x8 := HX2.out.at (k := 8) (v := .bool true) rfl; clear ho3 hr))
 clear y0 y1 y2 y3 y4 y5 y6 y7 y8 x0 x1 x2 x3 x4 x5 x6 x7 x8
 have hS : RF w.heap.size w w3.drew ∧ CA w.heap.size #[.int .i64 op,.int .i64 0,.int .i64 b,.int .u64 (n : Nat),.int .u64 (h : Nat),.slice pl nl cl,.slice pb nb cb,.slice pe ne ce,.bool true] 39 w3.drew := ⟨HF2.out.drew,HX2.out⟩
 have HO2 : Hid (w3.drew.ownsRow w.heap.size 5 1 (.slice p2 m2 c2) ([64] ++ eb).length (Lib.byteCells ([64] ++ eb))) := HT2
 clear HF2 HX2 HT2 HF1 HX1 HT1 HO1 HF HX HT HX0 HRX
 refine wp_region_held_drew (S := fun W => RF w.heap.size w W ∧ CA w.heap.size #[.int .i64 op,.int .i64 0,.int .i64 b,.int .u64 (n : Nat),.int .u64 (h : Nat),.slice pl nl cl,.slice pb nb cb,.slice pe ne ce,.bool true] 39 W) (by kernel_rfl) hS (fun _ => ?_)
 generalize w3.drew = W at *
 refine wpAnyH_take (oi := ⟨_,_,_,_,_,_⟩) (i := 0) (v := .slice p2 m2 c2) rfl (by kernel_rfl) (by kernel_rfl) (by kernel_rfl) (fun _ _ _ h => h) (Or.inl ⟨by rfl,?_⟩) (by assumption) ?_
 ·(intro W hSw; have x0 := hSw.2.at (k := 0) (v := .int .i64 op) rfl; have x1 := hSw.2.at (k := 1) (v := .int .i64 0) rfl; have x2 := hSw.2.at (k := 2) (v := .int .i64 b) rfl; have x3 := hSw.2.at (k := 3) (v := .int .u64 (n : Nat)) rfl; have x4 := hSw.2.at (k := 4) (v := .int .u64 (h : Nat)) rfl; have x5 := hSw.2.at (k := 5) (v := .slice pl nl cl) rfl; have x6 := hSw.2.at (k := 6) (v := .slice pb nb cb) rfl; have x7 := hSw.2.at (k := 7) (v := .slice pe ne ce) rfl; have x8 := hSw.2.at (k := 8) (v := .bool true) rfl; go_simp; try (with_reducible rfl))
 try simp only [Act.put,List.setIfInBounds_toArray,List.set_cons_zero,List.set_cons_succ]
 refine wpAnyH_take (oi := ⟨_,_,_,_,_,_⟩) (i := 3) (v := .pointer (some ⟨w.heap.size,7,none⟩)) rfl (by kernel_rfl) (by kernel_rfl) (by kernel_rfl) (fun _ _ _ h => h) (Or.inl ⟨by rfl,?_⟩) (by assumption) ?_
 ·(intro W hSw; have x0 := hSw.2.at (k := 0) (v := .int .i64 op) rfl; have x1 := hSw.2.at (k := 1) (v := .int .i64 0) rfl; have x2 := hSw.2.at (k := 2) (v := .int .i64 b) rfl; have x3 := hSw.2.at (k := 3) (v := .int .u64 (n : Nat)) rfl; have x4 := hSw.2.at (k := 4) (v := .int .u64 (h : Nat)) rfl; have x5 := hSw.2.at (k := 5) (v := .slice pl nl cl) rfl; have x6 := hSw.2.at (k := 6) (v := .slice pb nb cb) rfl; have x7 := hSw.2.at (k := 7) (v := .slice pe ne ce) rfl; have x8 := hSw.2.at (k := 8) (v := .bool true) rfl; go_simp; try (with_reducible rfl))
 try simp only [Act.put,List.setIfInBounds_toArray,List.set_cons_zero,List.set_cons_succ]
 refine wpAnyH_take (oi := ⟨_,_,_,_,_,_⟩) (i := 4) (v := .slice pe ne ce) rfl (by kernel_rfl) (by kernel_rfl) (by kernel_rfl) (fun _ _ _ h => h) (Or.inl ⟨by rfl,?_⟩) (by assumption) ?_
 ·(intro W hSw; have x0 := hSw.2.at (k := 0) (v := .int .i64 op) rfl; have x1 := hSw.2.at (k := 1) (v := .int .i64 0) rfl; have x2 := hSw.2.at (k := 2) (v := .int .i64 b) rfl; have x3 := hSw.2.at (k := 3) (v := .int .u64 (n : Nat)) rfl; have x4 := hSw.2.at (k := 4) (v := .int .u64 (h : Nat)) rfl; have x5 := hSw.2.at (k := 5) (v := .slice pl nl cl) rfl; have x6 := hSw.2.at (k := 6) (v := .slice pb nb cb) rfl; have x7 := hSw.2.at (k := 7) (v := .slice pe ne ce) rfl; have x8 := hSw.2.at (k := 8) (v := .bool true) rfl; go_simp; try (with_reducible rfl))
 try simp only [Act.put,List.setIfInBounds_toArray,List.set_cons_zero,List.set_cons_succ]
 refine wpAnyH_ready (rs := [1]) (by kernel_rfl) (by simp) ?_
 refine AllReadyH.cons (o := ⟨_,_,_,_,_,_⟩) rfl (fun K hK => ?_) ?_
 ·go_simp
  have HO5 := hid (own_less (own_litc W 5 5 rfl) (show w.heap.size ≤ W.heap.size from hS.1.size))
  replace HO2 := hid (own_kept HO2.out ((Below.refl W.heap.size W).alloc (Nat.le_refl _) (.cells #[.int .u8 5] 5)))
  replace hS := And.intro (hS.1.alloc (.cells #[.int .u8 5] 5)) (hS.2.alloc (.cells #[.int .u8 5] 5))
  generalize W.alloc (.cells #[.int .u8 5] 5) = W1 at *
  generalize W.heap.size = n5 at *
  refine hK.out _ _ hS (fun _ => ?_)
  clear hK K
  try simp only [Act.put,List.setIfInBounds_toArray,List.set_cons_zero,List.set_cons_succ]
  refine wpAnyH_ready (rs := [2]) (by kernel_rfl) (by simp) ?_
  refine AllReadyH.cons (o := ⟨_,_,_,_,_,_⟩) rfl (fun K hK => ?_) ?_
  ·refine append_rowS rfl (.tmp 34) (.tmp 35) rfl w.heap.size _ _ _ _ _ w HO2.out HO5.out HNB.out (Nat.le_refl _) hS.1 rfl rfl ?_
   intro p6 m6 c6 W2 ho3 hr
   replace hS := And.intro (hS.1.trans hr) (hS.2.rf hr (by decide))
   have HO6 := hid ho3
   clear ho3 hr HO2 HO5
   refine hK.out _ _ hS (fun _ => ?_)
   clear hK K
   try simp only [Act.put,List.setIfInBounds_toArray,List.set_cons_zero,List.set_cons_succ]
   refine wpAnyH_ready (rs := [5]) (by kernel_rfl) (by simp) ?_
   refine AllReadyH.cons (o := ⟨_,_,_,_,_,_⟩) rfl (fun K hK => ?_) ?_
   ·go_simp
    go_at_call 139
    (with_reducible refine ((HB2 W2 (hS.1.below (Nat.le_refl _))).out).mono ?_)
    rintro e W3 ⟨v,rfl,ho,hb⟩
    obtain ⟨p7,m7,c7,rfl⟩ := own_slice ho
    have HO7 := hid (own_less ho (Nat.le_trans HSZ.out hS.1.size))
    replace HO6 := hid (own_kept HO6.out hb)
    replace hS := And.intro (hS.1.trans (RF.of hb)) (hS.2.below hb hS.2.lt)
    clear ho hb
    refine hK.out _ _ hS (fun _ => ?_)
    clear hK K
    try simp only [Act.put,List.setIfInBounds_toArray,List.set_cons_zero,List.set_cons_succ]
    refine wpAnyH_ready (rs := [6]) (by kernel_rfl) (by simp) ?_
    refine AllReadyH.cons (o := ⟨_,_,_,_,_,_⟩) rfl (fun K hK => ?_) ?_
    ·refine append_rowS rfl (.tmp 36) (.tmp 39) rfl w.heap.size _ _ _ _ _ w HO6.out HO7.out HNC.out (Nat.le_refl _) hS.1 rfl rfl ?_
     intro p8 m8 c8 W4 ho3 hr
     replace hS := And.intro (hS.1.trans hr) (hS.2.rf hr (by decide))
     have HO8 := hid ho3
     clear ho3 hr HO6 HO7
     refine hK.out _ _ hS (fun _ => ?_)
     clear hK K
     try simp only [Act.put,List.setIfInBounds_toArray,List.set_cons_zero,List.set_cons_succ]
     refine wpAnyH_take (oi := ⟨_,_,_,_,_,_⟩) (i := 7) (v := .slice p8 m8 c8) rfl (by kernel_rfl) (by kernel_rfl) (by kernel_rfl) (fun _ _ _ h => h) (Or.inl ⟨by rfl,?_⟩) (by assumption) ?_
     ·(intro W hSw; have x0 := hSw.2.at (k := 0) (v := .int .i64 op) rfl; have x1 := hSw.2.at (k := 1) (v := .int .i64 0) rfl; have x2 := hSw.2.at (k := 2) (v := .int .i64 b) rfl; have x3 := hSw.2.at (k := 3) (v := .int .u64 (n : Nat)) rfl; have x4 := hSw.2.at (k := 4) (v := .int .u64 (h : Nat)) rfl; have x5 := hSw.2.at (k := 5) (v := .slice pl nl cl) rfl; have x6 := hSw.2.at (k := 6) (v := .slice pb nb cb) rfl; have x7 := hSw.2.at (k := 7) (v := .slice pe ne ce) rfl; have x8 := hSw.2.at (k := 8) (v := .bool true) rfl; go_simp; try (with_reducible rfl))
     try simp only [Act.put,List.setIfInBounds_toArray,List.set_cons_zero,List.set_cons_succ]
     refine wpAnyH_done (by kernel_rfl) ?_ _
     have HF := hid hS.1
     have HT := HO8
     clear hS
     generalize hwz : W4 = wz at *
     clear hwz
     go_wp2_with (at_builtin; refine append_rowW rfl _ _ rfl w.heap.size _ _ _ _ _ w (own_kept HT.out ((Below.refl _ _).alloc (Nat.le_refl _) _)) (own_litc wz 11 11 rfl) HNZ.out (Nat.le_refl _) (HF.out.alloc _) rfl rfl ?_; intro p9 m9 c9 w9 ho3 hr; have HT9 := hid ho3; have HF9 := hid hr; clear ho3 hr)
     go_ret
     exact ⟨_,rfl,HT9.out,HF9.out.below (Nat.le_refl _)⟩
    exact AllReadyH.nil
   exact AllReadyH.nil
  exact AllReadyH.nil
 exact AllReadyH.nil
set_option maxHeartbeats 8000000 in
theorem rblk_1f (op b : Int) (n h : Nat) (pl pb pe : Option Addr) (nl cl nb cb ne ce : Nat) (w : World) (hb : i64C b) (eb ee : List UInt8) (hn : eb.length + ee.length + 100 ≤ 140737488355000)
  (h1 : ∀ W,Below w.heap.size w W → Calls Tryz.prog 139 #[.slice pb nb cb] W (BO W eb)) (h2 : ∀ W,Below w.heap.size w W → Calls Tryz.prog 139 #[.slice pe ne ce] W (BO W ee)) :
  Calls Tryz.prog 232 #[.agg #[.int .i64 op,.int .i64 1,.int .i64 b,.int .u64 (n : Nat),.int .u64 (h : Nat),.slice pl nl cl,.slice pb nb cb,.slice pe ne ce,.bool false],.int .i64 1] w (BO w ([byI b] ++ eb ++ [11])) := by
 have HB1 := fun W hW => hid (h1 W hW)
 have HB2 := fun W hW => hid (h2 W hW)
 have HX0 := hid (CA.new w #[.int .i64 op,.int .i64 1,.int .i64 b,.int .u64 (n : Nat),.int .u64 (h : Nat),.slice pl nl cl,.slice pb nb cb,.slice pe ne ce,.bool false] 39)
 have HRX := hid ((RF.refl w.heap.size w).alloc (.cells #[.int .i64 op,.int .i64 1,.int .i64 b,.int .u64 (n : Nat),.int .u64 (h : Nat),.slice pl nl cl,.slice pb nb cb,.slice pe ne ce,.bool false] 39))
 have y0 := HX0.out.at (k := 0) (v := .int .i64 op) rfl
 have y1 := HX0.out.at (k := 1) (v := .int .i64 1) rfl
 have y2 := HX0.out.at (k := 2) (v := .int .i64 b) rfl
 have y3 := HX0.out.at (k := 3) (v := .int .u64 (n : Nat)) rfl
 have y4 := HX0.out.at (k := 4) (v := .int .u64 (h : Nat)) rfl
 have y5 := HX0.out.at (k := 5) (v := .slice pl nl cl) rfl
 have y6 := HX0.out.at (k := 6) (v := .slice pb nb cb) rfl
 have y7 := HX0.out.at (k := 7) (v := .slice pe ne ce) rfl
 have y8 := HX0.out.at (k := 8) (v := .bool false) rfl
 have HSZ : Hid (w.heap.size ≤ w.heap.size) := Nat.le_refl _
 have HSB := hid (show -9223372036854775808 ≤ b ∧ b ≤ 9223372036854775807 from ⟨hb.1,by have := hb.2; omega⟩)
 have q1 := slist_len b HSB.out
 have HNA := hid (show ([byI b]).length + eb.length ≤ 140737488355000 by first | omega | (simp only [List.length_cons,List.length_nil]; omega))
 have HNZ := hid (show ([byI b] ++ eb).length + ([11] : List UInt8).length ≤ 140737488355000 by simp only [List.length_append,List.length_cons,List.length_nil]; omega)
 clear h1 h2 hb hn q1
 go_enter Tryz.func232,Tryz.ntmps232
 go_upto_region 10 with fail
 clear y0 y1 y2 y3 y4 y5 y6 y7 y8
 have ht := own_lit1 ((w.alloc (.cells #[.int .i64 op,.int .i64 1,.int .i64 b,.int .u64 (n : Nat),.int .u64 (h : Nat),.slice pl nl cl,.slice pb nb cb,.slice pe ne ce,.bool false] 39)).alloc (.cells #[.int .u8 64] 5)) b
 rw [size_al,size_al] at ht
 have HT := hid (own_less ht (by omega : w.heap.size ≤ w.heap.size + 1 + 1))
 have HF := hid ((HRX.out.alloc (.cells #[.int .u8 64] 5)).alloc (.cells #[.int .u8 (b % 256)] 5))
 have HX := hid ((HX0.out.alloc (.cells #[.int .u8 64] 5)).alloc (.cells #[.int .u8 (b % 256)] 5))
 clear ht
 generalize (((w.alloc (.cells #[.int .i64 op,.int .i64 1,.int .i64 b,.int .u64 (n : Nat),.int .u64 (h : Nat),.slice pl nl cl,.slice pb nb cb,.slice pe ne ce,.bool false] 39)).alloc (.cells #[.int .u8 64] 5)).alloc (.cells #[.int .u8 (b % 256)] 5)) = w1 at *
 generalize hp0 : (some (⟨w.heap.size + 1 + 1,0,none⟩ : Addr)) = p0 at *
 clear hp0
 have y0 := HX.out.at (k := 0) (v := .int .i64 op) rfl
 have y1 := HX.out.at (k := 1) (v := .int .i64 1) rfl
 have y2 := HX.out.at (k := 2) (v := .int .i64 b) rfl
 have y3 := HX.out.at (k := 3) (v := .int .u64 (n : Nat)) rfl
 have y4 := HX.out.at (k := 4) (v := .int .u64 (h : Nat)) rfl
 have y5 := HX.out.at (k := 5) (v := .slice pl nl cl) rfl
 have y6 := HX.out.at (k := 6) (v := .slice pb nb cb) rfl
 have y7 := HX.out.at (k := 7) (v := .slice pe ne ce) rfl
 have y8 := HX.out.at (k := 8) (v := .bool false) rfl
 go_wp2_with (first
  | (go_at_call 139; (with_reducible refine (HB1 _ (HF.out.below (Nat.le_refl _))).out.mono ?_); rintro e w2 ⟨v,rfl,ho,hb⟩; obtain ⟨p1,m1,c1,rfl⟩ := own_slice ho; have HO1 := hid ho; have HT1 := hid (own_kept HT.out hb); have HF1 := hid (HF.out.trans (RF.of hb)); have HX1 := hid (HX.out.below hb HX.out.lt); clear ho hb)
  | (at_builtin; refine append_rowW rfl _ _ rfl w.heap.size _ _ _ _ _ w2 HT1.out HO1.out HNA.out HF1.out.size (RF.refl _ _) rfl rfl ?_; intro p2 m2 c2 w3 ho3 hr; have HT2 := hid ho3; have HF2 := hid (HF1.out.trans hr); have HX2 := hid (HX1.out.rf hr (by decide)); have x0 := HX2.out.at (k := 0) (v := .int .i64 op) rfl; have x1 := HX2.out.at (k := 1) (v := .int .i64 1) rfl; have x2 := HX2.out.at (k := 2) (v := .int .i64 b) rfl; have x3 := HX2.out.at (k := 3) (v := .int .u64 (n : Nat)) rfl; have x4 := HX2.out.at (k := 4) (v := .int .u64 (h : Nat)) rfl; have x5 := HX2.out.at (k := 5) (v := .slice pl nl cl) rfl; have x6 := HX2.out.at (k := 6) (v := .slice pb nb cb) rfl; have x7 := HX2.out.at (k := 7) (v := .slice pe ne ce) rfl; have x8 := HX2.out.at (k := 8) (v := .bool false) rfl; clear ho3 hr)
  | (at_builtin; refine append_rowW rfl _ _ rfl w.heap.size _ _ _ _ _ w (own_kept HT2.out ((Below.refl _ _).alloc (Nat.le_refl _) _)) (own_litc w3 11 11 rfl) HNZ.out (Nat.le_refl _) (HF2.out.alloc _) rfl rfl ?_; intro p9 m9 c9 w9 ho3 hr; have HT9 := hid ho3; have HF9 := hid hr; clear ho3 hr))
 go_ret
 exact ⟨_,rfl,HT9.out,HF9.out.below (Nat.le_refl _)⟩
set_option maxHeartbeats 8000000 in
theorem rblk_1t (op b : Int) (n h : Nat) (pl pb pe : Option Addr) (nl cl nb cb ne ce : Nat) (w : World) (hb : i64C b) (eb ee : List UInt8) (hn : eb.length + ee.length + 100 ≤ 140737488355000)
  (h1 : ∀ W,Below w.heap.size w W → Calls Tryz.prog 139 #[.slice pb nb cb] W (BO W eb)) (h2 : ∀ W,Below w.heap.size w W → Calls Tryz.prog 139 #[.slice pe ne ce] W (BO W ee)) :
  Calls Tryz.prog 232 #[.agg #[.int .i64 op,.int .i64 1,.int .i64 b,.int .u64 (n : Nat),.int .u64 (h : Nat),.slice pl nl cl,.slice pb nb cb,.slice pe ne ce,.bool true],.int .i64 1] w (BO w ([byI b] ++ eb ++ [5] ++ ee ++ [11])) := by
 have HB1 := fun W hW => hid (h1 W hW)
 have HB2 := fun W hW => hid (h2 W hW)
 have HX0 := hid (CA.new w #[.int .i64 op,.int .i64 1,.int .i64 b,.int .u64 (n : Nat),.int .u64 (h : Nat),.slice pl nl cl,.slice pb nb cb,.slice pe ne ce,.bool true] 39)
 have HRX := hid ((RF.refl w.heap.size w).alloc (.cells #[.int .i64 op,.int .i64 1,.int .i64 b,.int .u64 (n : Nat),.int .u64 (h : Nat),.slice pl nl cl,.slice pb nb cb,.slice pe ne ce,.bool true] 39))
 have y0 := HX0.out.at (k := 0) (v := .int .i64 op) rfl
 have y1 := HX0.out.at (k := 1) (v := .int .i64 1) rfl
 have y2 := HX0.out.at (k := 2) (v := .int .i64 b) rfl
 have y3 := HX0.out.at (k := 3) (v := .int .u64 (n : Nat)) rfl
 have y4 := HX0.out.at (k := 4) (v := .int .u64 (h : Nat)) rfl
 have y5 := HX0.out.at (k := 5) (v := .slice pl nl cl) rfl
 have y6 := HX0.out.at (k := 6) (v := .slice pb nb cb) rfl
 have y7 := HX0.out.at (k := 7) (v := .slice pe ne ce) rfl
 have y8 := HX0.out.at (k := 8) (v := .bool true) rfl
 have HSZ : Hid (w.heap.size ≤ w.heap.size) := Nat.le_refl _
 have HSB := hid (show -9223372036854775808 ≤ b ∧ b ≤ 9223372036854775807 from ⟨hb.1,by have := hb.2; omega⟩)
 have q1 := slist_len b HSB.out
 have HNA := hid (show ([byI b]).length + eb.length ≤ 140737488355000 by first | omega | (simp only [List.length_cons,List.length_nil]; omega))
 have HNB := hid (show ([byI b] ++ eb).length + ([5] : List UInt8).length ≤ 140737488355000 by simp only [List.length_append,List.length_cons,List.length_nil]; omega)
 have HNC := hid (show ([byI b] ++ eb ++ [5]).length + ee.length ≤ 140737488355000 by simp only [List.length_append,List.length_cons,List.length_nil]; omega)
 have HNZ := hid (show ([byI b] ++ eb ++ [5] ++ ee).length + ([11] : List UInt8).length ≤ 140737488355000 by simp only [List.length_append,List.length_cons,List.length_nil]; omega)
 clear h1 h2 hb hn q1
 go_enter Tryz.func232,Tryz.ntmps232
 go_upto_region 10 with fail
 clear y0 y1 y2 y3 y4 y5 y6 y7 y8
 have ht := own_lit1 ((w.alloc (.cells #[.int .i64 op,.int .i64 1,.int .i64 b,.int .u64 (n : Nat),.int .u64 (h : Nat),.slice pl nl cl,.slice pb nb cb,.slice pe ne ce,.bool true] 39)).alloc (.cells #[.int .u8 64] 5)) b
 rw [size_al,size_al] at ht
 have HT := hid (own_less ht (by omega : w.heap.size ≤ w.heap.size + 1 + 1))
 have HF := hid ((HRX.out.alloc (.cells #[.int .u8 64] 5)).alloc (.cells #[.int .u8 (b % 256)] 5))
 have HX := hid ((HX0.out.alloc (.cells #[.int .u8 64] 5)).alloc (.cells #[.int .u8 (b % 256)] 5))
 clear ht
 generalize (((w.alloc (.cells #[.int .i64 op,.int .i64 1,.int .i64 b,.int .u64 (n : Nat),.int .u64 (h : Nat),.slice pl nl cl,.slice pb nb cb,.slice pe ne ce,.bool true] 39)).alloc (.cells #[.int .u8 64] 5)).alloc (.cells #[.int .u8 (b % 256)] 5)) = w1 at *
 generalize hp0 : (some (⟨w.heap.size + 1 + 1,0,none⟩ : Addr)) = p0 at *
 clear hp0
 have y0 := HX.out.at (k := 0) (v := .int .i64 op) rfl
 have y1 := HX.out.at (k := 1) (v := .int .i64 1) rfl
 have y2 := HX.out.at (k := 2) (v := .int .i64 b) rfl
 have y3 := HX.out.at (k := 3) (v := .int .u64 (n : Nat)) rfl
 have y4 := HX.out.at (k := 4) (v := .int .u64 (h : Nat)) rfl
 have y5 := HX.out.at (k := 5) (v := .slice pl nl cl) rfl
 have y6 := HX.out.at (k := 6) (v := .slice pb nb cb) rfl
 have y7 := HX.out.at (k := 7) (v := .slice pe ne ce) rfl
 have y8 := HX.out.at (k := 8) (v := .bool true) rfl
 go_upto_region 12 with (first
  | (go_at_call 139; (with_reducible refine (HB1 _ (HF.out.below (Nat.le_refl _))).out.mono ?_); rintro e w2 ⟨v,rfl,ho,hb⟩; obtain ⟨p1,m1,c1,rfl⟩ := own_slice ho; have HO1 := hid ho; have HT1 := hid (own_kept HT.out hb); have HF1 := hid (HF.out.trans (RF.of hb)); have HX1 := hid (HX.out.below hb HX.out.lt); clear ho hb)
  | (at_builtin; refine append_rowW rfl _ _ rfl w.heap.size _ _ _ _ _ w2 HT1.out HO1.out HNA.out HF1.out.size (RF.refl _ _) rfl rfl ?_; intro p2 m2 c2 w3 ho3 hr; have HT2 := hid ho3; have HF2 := hid (HF1.out.trans hr); have HX2 := hid (HX1.out.rf hr (by decide)); have x0 := HX2.out.at (k := 0) (v := .int .i64 op) rfl; have x1 := HX2.out.at (k := 1) (v := .int .i64 1) rfl; have x2 := HX2.out.at (k := 2) (v := .int .i64 b) rfl; have x3 := HX2.out.at (k := 3) (v := .int .u64 (n : Nat)) rfl; have x4 := HX2.out.at (k := 4) (v := .int .u64 (h : Nat)) rfl; have x5 := HX2.out.at (k := 5) (v := .slice pl nl cl) rfl; have x6 := HX2.out.at (k := 6) (v := .slice pb nb cb) rfl; have x7 := HX2.out.at (k := 7) (v := .slice pe ne ce) rfl; have x8 := HX2.out.at (k := 8) (v := .bool true) rfl; clear ho3 hr))
 clear y0 y1 y2 y3 y4 y5 y6 y7 y8 x0 x1 x2 x3 x4 x5 x6 x7 x8
 have hS : RF w.heap.size w w3.drew ∧ CA w.heap.size #[.int .i64 op,.int .i64 1,.int .i64 b,.int .u64 (n : Nat),.int .u64 (h : Nat),.slice pl nl cl,.slice pb nb cb,.slice pe ne ce,.bool true] 39 w3.drew := ⟨HF2.out.drew,HX2.out⟩
 have HO2 : Hid (w3.drew.ownsRow w.heap.size 5 1 (.slice p2 m2 c2) ([byI b] ++ eb).length (Lib.byteCells ([byI b] ++ eb))) := HT2
 clear HF2 HX2 HT2 HF1 HX1 HT1 HO1 HF HX HT HX0 HRX
 refine wp_region_held_drew (S := fun W => RF w.heap.size w W ∧ CA w.heap.size #[.int .i64 op,.int .i64 1,.int .i64 b,.int .u64 (n : Nat),.int .u64 (h : Nat),.slice pl nl cl,.slice pb nb cb,.slice pe ne ce,.bool true] 39 W) (by kernel_rfl) hS (fun _ => ?_)
 generalize w3.drew = W at *
 refine wpAnyH_take (oi := ⟨_,_,_,_,_,_⟩) (i := 0) (v := .slice p2 m2 c2) rfl (by kernel_rfl) (by kernel_rfl) (by kernel_rfl) (fun _ _ _ h => h) (Or.inl ⟨by rfl,?_⟩) (by assumption) ?_
 ·(intro W hSw; have x0 := hSw.2.at (k := 0) (v := .int .i64 op) rfl; have x1 := hSw.2.at (k := 1) (v := .int .i64 1) rfl; have x2 := hSw.2.at (k := 2) (v := .int .i64 b) rfl; have x3 := hSw.2.at (k := 3) (v := .int .u64 (n : Nat)) rfl; have x4 := hSw.2.at (k := 4) (v := .int .u64 (h : Nat)) rfl; have x5 := hSw.2.at (k := 5) (v := .slice pl nl cl) rfl; have x6 := hSw.2.at (k := 6) (v := .slice pb nb cb) rfl; have x7 := hSw.2.at (k := 7) (v := .slice pe ne ce) rfl; have x8 := hSw.2.at (k := 8) (v := .bool true) rfl; go_simp; try (with_reducible rfl))
 try simp only [Act.put,List.setIfInBounds_toArray,List.set_cons_zero,List.set_cons_succ]
 refine wpAnyH_take (oi := ⟨_,_,_,_,_,_⟩) (i := 3) (v := .pointer (some ⟨w.heap.size,7,none⟩)) rfl (by kernel_rfl) (by kernel_rfl) (by kernel_rfl) (fun _ _ _ h => h) (Or.inl ⟨by rfl,?_⟩) (by assumption) ?_
 ·(intro W hSw; have x0 := hSw.2.at (k := 0) (v := .int .i64 op) rfl; have x1 := hSw.2.at (k := 1) (v := .int .i64 1) rfl; have x2 := hSw.2.at (k := 2) (v := .int .i64 b) rfl; have x3 := hSw.2.at (k := 3) (v := .int .u64 (n : Nat)) rfl; have x4 := hSw.2.at (k := 4) (v := .int .u64 (h : Nat)) rfl; have x5 := hSw.2.at (k := 5) (v := .slice pl nl cl) rfl; have x6 := hSw.2.at (k := 6) (v := .slice pb nb cb) rfl; have x7 := hSw.2.at (k := 7) (v := .slice pe ne ce) rfl; have x8 := hSw.2.at (k := 8) (v := .bool true) rfl; go_simp; try (with_reducible rfl))
 try simp only [Act.put,List.setIfInBounds_toArray,List.set_cons_zero,List.set_cons_succ]
 refine wpAnyH_take (oi := ⟨_,_,_,_,_,_⟩) (i := 4) (v := .slice pe ne ce) rfl (by kernel_rfl) (by kernel_rfl) (by kernel_rfl) (fun _ _ _ h => h) (Or.inl ⟨by rfl,?_⟩) (by assumption) ?_
 ·(intro W hSw; have x0 := hSw.2.at (k := 0) (v := .int .i64 op) rfl; have x1 := hSw.2.at (k := 1) (v := .int .i64 1) rfl; have x2 := hSw.2.at (k := 2) (v := .int .i64 b) rfl; have x3 := hSw.2.at (k := 3) (v := .int .u64 (n : Nat)) rfl; have x4 := hSw.2.at (k := 4) (v := .int .u64 (h : Nat)) rfl; have x5 := hSw.2.at (k := 5) (v := .slice pl nl cl) rfl; have x6 := hSw.2.at (k := 6) (v := .slice pb nb cb) rfl; have x7 := hSw.2.at (k := 7) (v := .slice pe ne ce) rfl; have x8 := hSw.2.at (k := 8) (v := .bool true) rfl; go_simp; try (with_reducible rfl))
 try simp only [Act.put,List.setIfInBounds_toArray,List.set_cons_zero,List.set_cons_succ]
 refine wpAnyH_ready (rs := [1]) (by kernel_rfl) (by simp) ?_
 refine AllReadyH.cons (o := ⟨_,_,_,_,_,_⟩) rfl (fun K hK => ?_) ?_
 ·go_simp
  have HO5 := hid (own_less (own_litc W 5 5 rfl) (show w.heap.size ≤ W.heap.size from hS.1.size))
  replace HO2 := hid (own_kept HO2.out ((Below.refl W.heap.size W).alloc (Nat.le_refl _) (.cells #[.int .u8 5] 5)))
  replace hS := And.intro (hS.1.alloc (.cells #[.int .u8 5] 5)) (hS.2.alloc (.cells #[.int .u8 5] 5))
  generalize W.alloc (.cells #[.int .u8 5] 5) = W1 at *
  generalize W.heap.size = n5 at *
  refine hK.out _ _ hS (fun _ => ?_)
  clear hK K
  try simp only [Act.put,List.setIfInBounds_toArray,List.set_cons_zero,List.set_cons_succ]
  refine wpAnyH_ready (rs := [2]) (by kernel_rfl) (by simp) ?_
  refine AllReadyH.cons (o := ⟨_,_,_,_,_,_⟩) rfl (fun K hK => ?_) ?_
  ·refine append_rowS rfl (.tmp 34) (.tmp 35) rfl w.heap.size _ _ _ _ _ w HO2.out HO5.out HNB.out (Nat.le_refl _) hS.1 rfl rfl ?_
   intro p6 m6 c6 W2 ho3 hr
   replace hS := And.intro (hS.1.trans hr) (hS.2.rf hr (by decide))
   have HO6 := hid ho3
   clear ho3 hr HO2 HO5
   refine hK.out _ _ hS (fun _ => ?_)
   clear hK K
   try simp only [Act.put,List.setIfInBounds_toArray,List.set_cons_zero,List.set_cons_succ]
   refine wpAnyH_ready (rs := [5]) (by kernel_rfl) (by simp) ?_
   refine AllReadyH.cons (o := ⟨_,_,_,_,_,_⟩) rfl (fun K hK => ?_) ?_
   ·go_simp
    go_at_call 139
    (with_reducible refine ((HB2 W2 (hS.1.below (Nat.le_refl _))).out).mono ?_)
    rintro e W3 ⟨v,rfl,ho,hb⟩
    obtain ⟨p7,m7,c7,rfl⟩ := own_slice ho
    have HO7 := hid (own_less ho (Nat.le_trans HSZ.out hS.1.size))
    replace HO6 := hid (own_kept HO6.out hb)
    replace hS := And.intro (hS.1.trans (RF.of hb)) (hS.2.below hb hS.2.lt)
    clear ho hb
    refine hK.out _ _ hS (fun _ => ?_)
    clear hK K
    try simp only [Act.put,List.setIfInBounds_toArray,List.set_cons_zero,List.set_cons_succ]
    refine wpAnyH_ready (rs := [6]) (by kernel_rfl) (by simp) ?_
    refine AllReadyH.cons (o := ⟨_,_,_,_,_,_⟩) rfl (fun K hK => ?_) ?_
    ·refine append_rowS rfl (.tmp 36) (.tmp 39) rfl w.heap.size _ _ _ _ _ w HO6.out HO7.out HNC.out (Nat.le_refl _) hS.1 rfl rfl ?_
     intro p8 m8 c8 W4 ho3 hr
     replace hS := And.intro (hS.1.trans hr) (hS.2.rf hr (by decide))
     have HO8 := hid ho3
     clear ho3 hr HO6 HO7
     refine hK.out _ _ hS (fun _ => ?_)
     clear hK K
     try simp only [Act.put,List.setIfInBounds_toArray,List.set_cons_zero,List.set_cons_succ]
     refine wpAnyH_take (oi := ⟨_,_,_,_,_,_⟩) (i := 7) (v := .slice p8 m8 c8) rfl (by kernel_rfl) (by kernel_rfl) (by kernel_rfl) (fun _ _ _ h => h) (Or.inl ⟨by rfl,?_⟩) (by assumption) ?_
     ·(intro W hSw; have x0 := hSw.2.at (k := 0) (v := .int .i64 op) rfl; have x1 := hSw.2.at (k := 1) (v := .int .i64 1) rfl; have x2 := hSw.2.at (k := 2) (v := .int .i64 b) rfl; have x3 := hSw.2.at (k := 3) (v := .int .u64 (n : Nat)) rfl; have x4 := hSw.2.at (k := 4) (v := .int .u64 (h : Nat)) rfl; have x5 := hSw.2.at (k := 5) (v := .slice pl nl cl) rfl; have x6 := hSw.2.at (k := 6) (v := .slice pb nb cb) rfl; have x7 := hSw.2.at (k := 7) (v := .slice pe ne ce) rfl; have x8 := hSw.2.at (k := 8) (v := .bool true) rfl; go_simp; try (with_reducible rfl))
     try simp only [Act.put,List.setIfInBounds_toArray,List.set_cons_zero,List.set_cons_succ]
     refine wpAnyH_done (by kernel_rfl) ?_ _
     have HF := hid hS.1
     have HT := HO8
     clear hS
     generalize hwz : W4 = wz at *
     clear hwz
     go_wp2_with (at_builtin; refine append_rowW rfl _ _ rfl w.heap.size _ _ _ _ _ w (own_kept HT.out ((Below.refl _ _).alloc (Nat.le_refl _) _)) (own_litc wz 11 11 rfl) HNZ.out (Nat.le_refl _) (HF.out.alloc _) rfl rfl ?_; intro p9 m9 c9 w9 ho3 hr; have HT9 := hid ho3; have HF9 := hid hr; clear ho3 hr)
     go_ret
     exact ⟨_,rfl,HT9.out,HF9.out.below (Nat.le_refl _)⟩
    exact AllReadyH.nil
   exact AllReadyH.nil
  exact AllReadyH.nil
 exact AllReadyH.nil
set_option maxHeartbeats 8000000 in
theorem rblk_2f (op b : Int) (n h : Nat) (pl pb pe : Option Addr) (nl cl nb cb ne ce : Nat) (w : World) (hb : i64C b) (eb ee : List UInt8) (hn : eb.length + ee.length + 100 ≤ 140737488355000)
  (h1 : ∀ W,Below w.heap.size w W → Calls Tryz.prog 139 #[.slice pb nb cb] W (BO W eb)) (h2 : ∀ W,Below w.heap.size w W → Calls Tryz.prog 139 #[.slice pe ne ce] W (BO W ee)) :
  Calls Tryz.prog 232 #[.agg #[.int .i64 op,.int .i64 2,.int .i64 b,.int .u64 (n : Nat),.int .u64 (h : Nat),.slice pl nl cl,.slice pb nb cb,.slice pe ne ce,.bool false],.int .i64 1] w (BO w (slist b ++ eb ++ [11])) := by
 have HB1 := fun W hW => hid (h1 W hW)
 have HB2 := fun W hW => hid (h2 W hW)
 have HX0 := hid (CA.new w #[.int .i64 op,.int .i64 2,.int .i64 b,.int .u64 (n : Nat),.int .u64 (h : Nat),.slice pl nl cl,.slice pb nb cb,.slice pe ne ce,.bool false] 39)
 have HRX := hid ((RF.refl w.heap.size w).alloc (.cells #[.int .i64 op,.int .i64 2,.int .i64 b,.int .u64 (n : Nat),.int .u64 (h : Nat),.slice pl nl cl,.slice pb nb cb,.slice pe ne ce,.bool false] 39))
 have y0 := HX0.out.at (k := 0) (v := .int .i64 op) rfl
 have y1 := HX0.out.at (k := 1) (v := .int .i64 2) rfl
 have y2 := HX0.out.at (k := 2) (v := .int .i64 b) rfl
 have y3 := HX0.out.at (k := 3) (v := .int .u64 (n : Nat)) rfl
 have y4 := HX0.out.at (k := 4) (v := .int .u64 (h : Nat)) rfl
 have y5 := HX0.out.at (k := 5) (v := .slice pl nl cl) rfl
 have y6 := HX0.out.at (k := 6) (v := .slice pb nb cb) rfl
 have y7 := HX0.out.at (k := 7) (v := .slice pe ne ce) rfl
 have y8 := HX0.out.at (k := 8) (v := .bool false) rfl
 have HSZ : Hid (w.heap.size ≤ w.heap.size) := Nat.le_refl _
 have HSB := hid (show -9223372036854775808 ≤ b ∧ b ≤ 9223372036854775807 from ⟨hb.1,by have := hb.2; omega⟩)
 have q1 := slist_len b HSB.out
 have HNA := hid (show (slist b).length + eb.length ≤ 140737488355000 by first | omega | (simp only [List.length_cons,List.length_nil]; omega))
 have HNZ := hid (show (slist b ++ eb).length + ([11] : List UInt8).length ≤ 140737488355000 by simp only [List.length_append,List.length_cons,List.length_nil]; omega)
 clear h1 h2 hb hn q1
 go_enter Tryz.func232,Tryz.ntmps232
 have HRY := hid (HRX.out.alloc (.cells #[.int .u8 64] 5))
 have HXY := hid (HX0.out.alloc (.cells #[.int .u8 64] 5))
 have z0 := HXY.out.at (k := 0) (v := .int .i64 op) rfl
 have z1 := HXY.out.at (k := 1) (v := .int .i64 2) rfl
 have z2 := HXY.out.at (k := 2) (v := .int .i64 b) rfl
 have z3 := HXY.out.at (k := 3) (v := .int .u64 (n : Nat)) rfl
 have z4 := HXY.out.at (k := 4) (v := .int .u64 (h : Nat)) rfl
 have z5 := HXY.out.at (k := 5) (v := .slice pl nl cl) rfl
 have z6 := HXY.out.at (k := 6) (v := .slice pb nb cb) rfl
 have z7 := HXY.out.at (k := 7) (v := .slice pe ne ce) rfl
 have z8 := HXY.out.at (k := 8) (v := .bool false) rfl
 go_upto_region 10 with (go_at_call 246; (with_reducible refine (refS_any b HSB.out.1 HSB.out.2 _).mono ?_); rintro e w1 ⟨v,rfl,ho,hb⟩; obtain ⟨p0,m0,c0,rfl⟩ := own_slice ho; have HT := hid (own_less ho HRY.out.size); have HF := hid (HRY.out.trans (RF.of hb)); have HX := hid (HXY.out.below hb HXY.out.lt); clear ho hb)
 clear z0 z1 z2 z3 z4 z5 z6 z7 z8 y0 y1 y2 y3 y4 y5 y6 y7 y8
 have y0 := HX.out.at (k := 0) (v := .int .i64 op) rfl
 have y1 := HX.out.at (k := 1) (v := .int .i64 2) rfl
 have y2 := HX.out.at (k := 2) (v := .int .i64 b) rfl
 have y3 := HX.out.at (k := 3) (v := .int .u64 (n : Nat)) rfl
 have y4 := HX.out.at (k := 4) (v := .int .u64 (h : Nat)) rfl
 have y5 := HX.out.at (k := 5) (v := .slice pl nl cl) rfl
 have y6 := HX.out.at (k := 6) (v := .slice pb nb cb) rfl
 have y7 := HX.out.at (k := 7) (v := .slice pe ne ce) rfl
 have y8 := HX.out.at (k := 8) (v := .bool false) rfl
 go_wp2_with (first
  | (go_at_call 139; (with_reducible refine (HB1 _ (HF.out.below (Nat.le_refl _))).out.mono ?_); rintro e w2 ⟨v,rfl,ho,hb⟩; obtain ⟨p1,m1,c1,rfl⟩ := own_slice ho; have HO1 := hid ho; have HT1 := hid (own_kept HT.out hb); have HF1 := hid (HF.out.trans (RF.of hb)); have HX1 := hid (HX.out.below hb HX.out.lt); clear ho hb)
  | (at_builtin; refine append_rowW rfl _ _ rfl w.heap.size _ _ _ _ _ w2 HT1.out HO1.out HNA.out HF1.out.size (RF.refl _ _) rfl rfl ?_; intro p2 m2 c2 w3 ho3 hr; have HT2 := hid ho3; have HF2 := hid (HF1.out.trans hr); have HX2 := hid (HX1.out.rf hr (by decide)); have x0 := HX2.out.at (k := 0) (v := .int .i64 op) rfl; have x1 := HX2.out.at (k := 1) (v := .int .i64 2) rfl; have x2 := HX2.out.at (k := 2) (v := .int .i64 b) rfl; have x3 := HX2.out.at (k := 3) (v := .int .u64 (n : Nat)) rfl; have x4 := HX2.out.at (k := 4) (v := .int .u64 (h : Nat)) rfl; have x5 := HX2.out.at (k := 5) (v := .slice pl nl cl) rfl; have x6 := HX2.out.at (k := 6) (v := .slice pb nb cb) rfl; have x7 := HX2.out.at (k := 7) (v := .slice pe ne ce) rfl; have x8 := HX2.out.at (k := 8) (v := .bool false) rfl; clear ho3 hr)
  | (at_builtin; refine append_rowW rfl _ _ rfl w.heap.size _ _ _ _ _ w (own_kept HT2.out ((Below.refl _ _).alloc (Nat.le_refl _) _)) (own_litc w3 11 11 rfl) HNZ.out (Nat.le_refl _) (HF2.out.alloc _) rfl rfl ?_; intro p9 m9 c9 w9 ho3 hr; have HT9 := hid ho3; have HF9 := hid hr; clear ho3 hr))
 go_ret
 exact ⟨_,rfl,HT9.out,HF9.out.below (Nat.le_refl _)⟩
set_option maxHeartbeats 8000000 in
theorem rblk_2t (op b : Int) (n h : Nat) (pl pb pe : Option Addr) (nl cl nb cb ne ce : Nat) (w : World) (hb : i64C b) (eb ee : List UInt8) (hn : eb.length + ee.length + 100 ≤ 140737488355000)
  (h1 : ∀ W,Below w.heap.size w W → Calls Tryz.prog 139 #[.slice pb nb cb] W (BO W eb)) (h2 : ∀ W,Below w.heap.size w W → Calls Tryz.prog 139 #[.slice pe ne ce] W (BO W ee)) :
  Calls Tryz.prog 232 #[.agg #[.int .i64 op,.int .i64 2,.int .i64 b,.int .u64 (n : Nat),.int .u64 (h : Nat),.slice pl nl cl,.slice pb nb cb,.slice pe ne ce,.bool true],.int .i64 1] w (BO w (slist b ++ eb ++ [5] ++ ee ++ [11])) := by
 have HB1 := fun W hW => hid (h1 W hW)
 have HB2 := fun W hW => hid (h2 W hW)
 have HX0 := hid (CA.new w #[.int .i64 op,.int .i64 2,.int .i64 b,.int .u64 (n : Nat),.int .u64 (h : Nat),.slice pl nl cl,.slice pb nb cb,.slice pe ne ce,.bool true] 39)
 have HRX := hid ((RF.refl w.heap.size w).alloc (.cells #[.int .i64 op,.int .i64 2,.int .i64 b,.int .u64 (n : Nat),.int .u64 (h : Nat),.slice pl nl cl,.slice pb nb cb,.slice pe ne ce,.bool true] 39))
 have y0 := HX0.out.at (k := 0) (v := .int .i64 op) rfl
 have y1 := HX0.out.at (k := 1) (v := .int .i64 2) rfl
 have y2 := HX0.out.at (k := 2) (v := .int .i64 b) rfl
 have y3 := HX0.out.at (k := 3) (v := .int .u64 (n : Nat)) rfl
 have y4 := HX0.out.at (k := 4) (v := .int .u64 (h : Nat)) rfl
 have y5 := HX0.out.at (k := 5) (v := .slice pl nl cl) rfl
 have y6 := HX0.out.at (k := 6) (v := .slice pb nb cb) rfl
 have y7 := HX0.out.at (k := 7) (v := .slice pe ne ce) rfl
 have y8 := HX0.out.at (k := 8) (v := .bool true) rfl
 have HSZ : Hid (w.heap.size ≤ w.heap.size) := Nat.le_refl _
 have HSB := hid (show -9223372036854775808 ≤ b ∧ b ≤ 9223372036854775807 from ⟨hb.1,by have := hb.2; omega⟩)
 have q1 := slist_len b HSB.out
 have HNA := hid (show (slist b).length + eb.length ≤ 140737488355000 by first | omega | (simp only [List.length_cons,List.length_nil]; omega))
 have HNB := hid (show (slist b ++ eb).length + ([5] : List UInt8).length ≤ 140737488355000 by simp only [List.length_append,List.length_cons,List.length_nil]; omega)
 have HNC := hid (show (slist b ++ eb ++ [5]).length + ee.length ≤ 140737488355000 by simp only [List.length_append,List.length_cons,List.length_nil]; omega)
 have HNZ := hid (show (slist b ++ eb ++ [5] ++ ee).length + ([11] : List UInt8).length ≤ 140737488355000 by simp only [List.length_append,List.length_cons,List.length_nil]; omega)
 clear h1 h2 hb hn q1
 go_enter Tryz.func232,Tryz.ntmps232
 have HRY := hid (HRX.out.alloc (.cells #[.int .u8 64] 5))
 have HXY := hid (HX0.out.alloc (.cells #[.int .u8 64] 5))
 have z0 := HXY.out.at (k := 0) (v := .int .i64 op) rfl
 have z1 := HXY.out.at (k := 1) (v := .int .i64 2) rfl
 have z2 := HXY.out.at (k := 2) (v := .int .i64 b) rfl
 have z3 := HXY.out.at (k := 3) (v := .int .u64 (n : Nat)) rfl
 have z4 := HXY.out.at (k := 4) (v := .int .u64 (h : Nat)) rfl
 have z5 := HXY.out.at (k := 5) (v := .slice pl nl cl) rfl
 have z6 := HXY.out.at (k := 6) (v := .slice pb nb cb) rfl
 have z7 := HXY.out.at (k := 7) (v := .slice pe ne ce) rfl
 have z8 := HXY.out.at (k := 8) (v := .bool true) rfl
 go_upto_region 10 with (go_at_call 246; (with_reducible refine (refS_any b HSB.out.1 HSB.out.2 _).mono ?_); rintro e w1 ⟨v,rfl,ho,hb⟩; obtain ⟨p0,m0,c0,rfl⟩ := own_slice ho; have HT := hid (own_less ho HRY.out.size); have HF := hid (HRY.out.trans (RF.of hb)); have HX := hid (HXY.out.below hb HXY.out.lt); clear ho hb)
 clear z0 z1 z2 z3 z4 z5 z6 z7 z8 y0 y1 y2 y3 y4 y5 y6 y7 y8
 have y0 := HX.out.at (k := 0) (v := .int .i64 op) rfl
 have y1 := HX.out.at (k := 1) (v := .int .i64 2) rfl
 have y2 := HX.out.at (k := 2) (v := .int .i64 b) rfl
 have y3 := HX.out.at (k := 3) (v := .int .u64 (n : Nat)) rfl
 have y4 := HX.out.at (k := 4) (v := .int .u64 (h : Nat)) rfl
 have y5 := HX.out.at (k := 5) (v := .slice pl nl cl) rfl
 have y6 := HX.out.at (k := 6) (v := .slice pb nb cb) rfl
 have y7 := HX.out.at (k := 7) (v := .slice pe ne ce) rfl
 have y8 := HX.out.at (k := 8) (v := .bool true) rfl
 go_upto_region 12 with (first
  | (go_at_call 139; (with_reducible refine (HB1 _ (HF.out.below (Nat.le_refl _))).out.mono ?_); rintro e w2 ⟨v,rfl,ho,hb⟩; obtain ⟨p1,m1,c1,rfl⟩ := own_slice ho; have HO1 := hid ho; have HT1 := hid (own_kept HT.out hb); have HF1 := hid (HF.out.trans (RF.of hb)); have HX1 := hid (HX.out.below hb HX.out.lt); clear ho hb)
  | (at_builtin; refine append_rowW rfl _ _ rfl w.heap.size _ _ _ _ _ w2 HT1.out HO1.out HNA.out HF1.out.size (RF.refl _ _) rfl rfl ?_; intro p2 m2 c2 w3 ho3 hr; have HT2 := hid ho3; have HF2 := hid (HF1.out.trans hr); have HX2 := hid (HX1.out.rf hr (by decide)); have x0 := HX2.out.at (k := 0) (v := .int .i64 op) rfl; have x1 := HX2.out.at (k := 1) (v := .int .i64 2) rfl; have x2 := HX2.out.at (k := 2) (v := .int .i64 b) rfl; have x3 := HX2.out.at (k := 3) (v := .int .u64 (n : Nat)) rfl; have x4 := HX2.out.at (k := 4) (v := .int .u64 (h : Nat)) rfl; have x5 := HX2.out.at (k := 5) (v := .slice pl nl cl) rfl; have x6 := HX2.out.at (k := 6) (v := .slice pb nb cb) rfl; have x7 := HX2.out.at (k := 7) (v := .slice pe ne ce) rfl; have x8 := HX2.out.at (k := 8) (v := .bool true) rfl; clear ho3 hr))
 clear y0 y1 y2 y3 y4 y5 y6 y7 y8 x0 x1 x2 x3 x4 x5 x6 x7 x8
 have hS : RF w.heap.size w w3.drew ∧ CA w.heap.size #[.int .i64 op,.int .i64 2,.int .i64 b,.int .u64 (n : Nat),.int .u64 (h : Nat),.slice pl nl cl,.slice pb nb cb,.slice pe ne ce,.bool true] 39 w3.drew := ⟨HF2.out.drew,HX2.out⟩
 have HO2 : Hid (w3.drew.ownsRow w.heap.size 5 1 (.slice p2 m2 c2) (slist b ++ eb).length (Lib.byteCells (slist b ++ eb))) := HT2
 clear HF2 HX2 HT2 HF1 HX1 HT1 HO1 HF HX HT HX0 HRX
 refine wp_region_held_drew (S := fun W => RF w.heap.size w W ∧ CA w.heap.size #[.int .i64 op,.int .i64 2,.int .i64 b,.int .u64 (n : Nat),.int .u64 (h : Nat),.slice pl nl cl,.slice pb nb cb,.slice pe ne ce,.bool true] 39 W) (by kernel_rfl) hS (fun _ => ?_)
 generalize w3.drew = W at *
 refine wpAnyH_take (oi := ⟨_,_,_,_,_,_⟩) (i := 0) (v := .slice p2 m2 c2) rfl (by kernel_rfl) (by kernel_rfl) (by kernel_rfl) (fun _ _ _ h => h) (Or.inl ⟨by rfl,?_⟩) (by assumption) ?_
 ·(intro W hSw; have x0 := hSw.2.at (k := 0) (v := .int .i64 op) rfl; have x1 := hSw.2.at (k := 1) (v := .int .i64 2) rfl; have x2 := hSw.2.at (k := 2) (v := .int .i64 b) rfl; have x3 := hSw.2.at (k := 3) (v := .int .u64 (n : Nat)) rfl; have x4 := hSw.2.at (k := 4) (v := .int .u64 (h : Nat)) rfl; have x5 := hSw.2.at (k := 5) (v := .slice pl nl cl) rfl; have x6 := hSw.2.at (k := 6) (v := .slice pb nb cb) rfl; have x7 := hSw.2.at (k := 7) (v := .slice pe ne ce) rfl; have x8 := hSw.2.at (k := 8) (v := .bool true) rfl; go_simp; try (with_reducible rfl))
 try simp only [Act.put,List.setIfInBounds_toArray,List.set_cons_zero,List.set_cons_succ]
 refine wpAnyH_take (oi := ⟨_,_,_,_,_,_⟩) (i := 3) (v := .pointer (some ⟨w.heap.size,7,none⟩)) rfl (by kernel_rfl) (by kernel_rfl) (by kernel_rfl) (fun _ _ _ h => h) (Or.inl ⟨by rfl,?_⟩) (by assumption) ?_
 ·(intro W hSw; have x0 := hSw.2.at (k := 0) (v := .int .i64 op) rfl; have x1 := hSw.2.at (k := 1) (v := .int .i64 2) rfl; have x2 := hSw.2.at (k := 2) (v := .int .i64 b) rfl; have x3 := hSw.2.at (k := 3) (v := .int .u64 (n : Nat)) rfl; have x4 := hSw.2.at (k := 4) (v := .int .u64 (h : Nat)) rfl; have x5 := hSw.2.at (k := 5) (v := .slice pl nl cl) rfl; have x6 := hSw.2.at (k := 6) (v := .slice pb nb cb) rfl; have x7 := hSw.2.at (k := 7) (v := .slice pe ne ce) rfl; have x8 := hSw.2.at (k := 8) (v := .bool true) rfl; go_simp; try (with_reducible rfl))
 try simp only [Act.put,List.setIfInBounds_toArray,List.set_cons_zero,List.set_cons_succ]
 refine wpAnyH_take (oi := ⟨_,_,_,_,_,_⟩) (i := 4) (v := .slice pe ne ce) rfl (by kernel_rfl) (by kernel_rfl) (by kernel_rfl) (fun _ _ _ h => h) (Or.inl ⟨by rfl,?_⟩) (by assumption) ?_
 ·(intro W hSw; have x0 := hSw.2.at (k := 0) (v := .int .i64 op) rfl; have x1 := hSw.2.at (k := 1) (v := .int .i64 2) rfl; have x2 := hSw.2.at (k := 2) (v := .int .i64 b) rfl; have x3 := hSw.2.at (k := 3) (v := .int .u64 (n : Nat)) rfl; have x4 := hSw.2.at (k := 4) (v := .int .u64 (h : Nat)) rfl; have x5 := hSw.2.at (k := 5) (v := .slice pl nl cl) rfl; have x6 := hSw.2.at (k := 6) (v := .slice pb nb cb) rfl; have x7 := hSw.2.at (k := 7) (v := .slice pe ne ce) rfl; have x8 := hSw.2.at (k := 8) (v := .bool true) rfl; go_simp; try (with_reducible rfl))
 try simp only [Act.put,List.setIfInBounds_toArray,List.set_cons_zero,List.set_cons_succ]
 refine wpAnyH_ready (rs := [1]) (by kernel_rfl) (by simp) ?_
 refine AllReadyH.cons (o := ⟨_,_,_,_,_,_⟩) rfl (fun K hK => ?_) ?_
 ·go_simp
  have HO5 := hid (own_less (own_litc W 5 5 rfl) (show w.heap.size ≤ W.heap.size from hS.1.size))
  replace HO2 := hid (own_kept HO2.out ((Below.refl W.heap.size W).alloc (Nat.le_refl _) (.cells #[.int .u8 5] 5)))
  replace hS := And.intro (hS.1.alloc (.cells #[.int .u8 5] 5)) (hS.2.alloc (.cells #[.int .u8 5] 5))
  generalize W.alloc (.cells #[.int .u8 5] 5) = W1 at *
  generalize W.heap.size = n5 at *
  refine hK.out _ _ hS (fun _ => ?_)
  clear hK K
  try simp only [Act.put,List.setIfInBounds_toArray,List.set_cons_zero,List.set_cons_succ]
  refine wpAnyH_ready (rs := [2]) (by kernel_rfl) (by simp) ?_
  refine AllReadyH.cons (o := ⟨_,_,_,_,_,_⟩) rfl (fun K hK => ?_) ?_
  ·refine append_rowS rfl (.tmp 34) (.tmp 35) rfl w.heap.size _ _ _ _ _ w HO2.out HO5.out HNB.out (Nat.le_refl _) hS.1 rfl rfl ?_
   intro p6 m6 c6 W2 ho3 hr
   replace hS := And.intro (hS.1.trans hr) (hS.2.rf hr (by decide))
   have HO6 := hid ho3
   clear ho3 hr HO2 HO5
   refine hK.out _ _ hS (fun _ => ?_)
   clear hK K
   try simp only [Act.put,List.setIfInBounds_toArray,List.set_cons_zero,List.set_cons_succ]
   refine wpAnyH_ready (rs := [5]) (by kernel_rfl) (by simp) ?_
   refine AllReadyH.cons (o := ⟨_,_,_,_,_,_⟩) rfl (fun K hK => ?_) ?_
   ·go_simp
    go_at_call 139
    (with_reducible refine ((HB2 W2 (hS.1.below (Nat.le_refl _))).out).mono ?_)
    rintro e W3 ⟨v,rfl,ho,hb⟩
    obtain ⟨p7,m7,c7,rfl⟩ := own_slice ho
    have HO7 := hid (own_less ho (Nat.le_trans HSZ.out hS.1.size))
    replace HO6 := hid (own_kept HO6.out hb)
    replace hS := And.intro (hS.1.trans (RF.of hb)) (hS.2.below hb hS.2.lt)
    clear ho hb
    refine hK.out _ _ hS (fun _ => ?_)
    clear hK K
    try simp only [Act.put,List.setIfInBounds_toArray,List.set_cons_zero,List.set_cons_succ]
    refine wpAnyH_ready (rs := [6]) (by kernel_rfl) (by simp) ?_
    refine AllReadyH.cons (o := ⟨_,_,_,_,_,_⟩) rfl (fun K hK => ?_) ?_
    ·refine append_rowS rfl (.tmp 36) (.tmp 39) rfl w.heap.size _ _ _ _ _ w HO6.out HO7.out HNC.out (Nat.le_refl _) hS.1 rfl rfl ?_
     intro p8 m8 c8 W4 ho3 hr
     replace hS := And.intro (hS.1.trans hr) (hS.2.rf hr (by decide))
     have HO8 := hid ho3
     clear ho3 hr HO6 HO7
     refine hK.out _ _ hS (fun _ => ?_)
     clear hK K
     try simp only [Act.put,List.setIfInBounds_toArray,List.set_cons_zero,List.set_cons_succ]
     refine wpAnyH_take (oi := ⟨_,_,_,_,_,_⟩) (i := 7) (v := .slice p8 m8 c8) rfl (by kernel_rfl) (by kernel_rfl) (by kernel_rfl) (fun _ _ _ h => h) (Or.inl ⟨by rfl,?_⟩) (by assumption) ?_
     ·(intro W hSw; have x0 := hSw.2.at (k := 0) (v := .int .i64 op) rfl; have x1 := hSw.2.at (k := 1) (v := .int .i64 2) rfl; have x2 := hSw.2.at (k := 2) (v := .int .i64 b) rfl; have x3 := hSw.2.at (k := 3) (v := .int .u64 (n : Nat)) rfl; have x4 := hSw.2.at (k := 4) (v := .int .u64 (h : Nat)) rfl; have x5 := hSw.2.at (k := 5) (v := .slice pl nl cl) rfl; have x6 := hSw.2.at (k := 6) (v := .slice pb nb cb) rfl; have x7 := hSw.2.at (k := 7) (v := .slice pe ne ce) rfl; have x8 := hSw.2.at (k := 8) (v := .bool true) rfl; go_simp; try (with_reducible rfl))
     try simp only [Act.put,List.setIfInBounds_toArray,List.set_cons_zero,List.set_cons_succ]
     refine wpAnyH_done (by kernel_rfl) ?_ _
     have HF := hid hS.1
     have HT := HO8
     clear hS
     generalize hwz : W4 = wz at *
     clear hwz
     go_wp2_with (at_builtin; refine append_rowW rfl _ _ rfl w.heap.size _ _ _ _ _ w (own_kept HT.out ((Below.refl _ _).alloc (Nat.le_refl _) _)) (own_litc wz 11 11 rfl) HNZ.out (Nat.le_refl _) (HF.out.alloc _) rfl rfl ?_; intro p9 m9 c9 w9 ho3 hr; have HT9 := hid ho3; have HF9 := hid hr; clear ho3 hr)
     go_ret
     exact ⟨_,rfl,HT9.out,HF9.out.below (Nat.le_refl _)⟩
    exact AllReadyH.nil
   exact AllReadyH.nil
  exact AllReadyH.nil
 exact AllReadyH.nil
theorem beh_1 (op a b : Int) (n h : Nat) (pl pb pe : Option Addr) (nl cl nb cb ne ce : Nat) (ot : Bool) (w : World) (ha : a = 0 ∨ a = 1 ∨ a = 2) (hb : i64C b) (eb ee : List UInt8) (hn : eb.length + ee.length + 100 ≤ 140737488355000)
  (h1 : ∀ W,Below w.heap.size w W → Calls Tryz.prog 139 #[.slice pb nb cb] W (BO W eb)) (h2 : ∀ W,Below w.heap.size w W → Calls Tryz.prog 139 #[.slice pe ne ce] W (BO W ee)) :
  Calls Tryz.prog 232 #[.agg #[.int .i64 op,.int .i64 a,.int .i64 b,.int .u64 (n : Nat),.int .u64 (h : Nat),.slice pl nl cl,.slice pb nb cb,.slice pe ne ce,.bool ot],.int .i64 1] w (BO w (blL a b ++ eb ++ (if ot = true then 5 :: ee else []) ++ [11])) := by
 have e0 : blL 0 b = [64] := rfl
 have e1 : blL 1 b = [byI b] := rfl
 have e2 : blL 2 b = slist b := rfl
 rcases ha with rfl | rfl | rfl
 all_goals cases ot
 ·have := rblk_0f op b n h pl pb pe nl cl nb cb ne ce w hb eb ee hn h1 h2
  simpa [e0,List.append_assoc] using this
 ·have := rblk_0t op b n h pl pb pe nl cl nb cb ne ce w hb eb ee hn h1 h2
  simpa [e0,List.append_assoc] using this
 ·have := rblk_1f op b n h pl pb pe nl cl nb cb ne ce w hb eb ee hn h1 h2
  simpa [e1,List.append_assoc] using this
 ·have := rblk_1t op b n h pl pb pe nl cl nb cb ne ce w hb eb ee hn h1 h2
  simpa [e1,List.append_assoc] using this
 ·have := rblk_2f op b n h pl pb pe nl cl nb cb ne ce w hb eb ee hn h1 h2
  simpa [e2,List.append_assoc] using this
 ·have := rblk_2t op b n h pl pb pe nl cl nb cb ne ce w hb eb ee hn h1 h2
  simpa [e2,List.append_assoc] using this
end Go.Proofs.YtjgeedgphcjhoaaGreat
