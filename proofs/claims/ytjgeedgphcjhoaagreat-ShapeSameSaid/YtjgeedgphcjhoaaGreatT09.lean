/-
  Cop1, Cop2: merged, what the law does not reach left out (each text says what it holds where it lies in wip). No condition.
-/
import Derived.Test.YtjgeedgphcjhoaaGreatT03
import Derived.OwnWalk
import Derived.Laws.OwnMore
import Derived.Lib.SliceRun
import Derived.Test.YtjgeedgphcjhoaaGreatT01
set_option linter.unusedSimpArgs false
set_option linter.unusedVariables false
set_option maxRecDepth 100000
namespace Go.Proofs.YtjgeedgphcjhoaaGreat
open Go.RowKit
theorem cells_1 (w : World) (g : Nat) (cur : Array Value) (T : TypeId) (v0 : Value) (h : w.heap[g]? = some (.cells cur T (0,0))) (hs : cur.size = 1) : (w.setCell ⟨g,0,none⟩ v0).cell? ⟨g,0,none⟩ = some v0 := by
 have h0 : CA g cur T w := h
 have h1 := CA.set (k := 0) h0 v0
 exact h1.at (by simp [Array.getElem?_setIfInBounds,hs])
theorem cells_2 (w : World) (g : Nat) (cur : Array Value) (T : TypeId) (v0 v1 : Value) (h : w.heap[g]? = some (.cells cur T (0,0))) (hs : cur.size = 2) : ((w.setCell ⟨g,0,none⟩ v0).setCell ⟨g,1,none⟩ v1).cell? ⟨g,0,none⟩ = some v0 ∧ ((w.setCell ⟨g,0,none⟩ v0).setCell ⟨g,1,none⟩ v1).cell? ⟨g,1,none⟩ = some v1 := by
 have h0 : CA g cur T w := h
 have h1 := CA.set (k := 0) h0 v0
 have h2 := CA.set (k := 1) h1 v1
 refine ⟨?_,?_⟩
 all_goals exact h2.at (by simp [Array.getElem?_setIfInBounds,hs])
theorem cells_3 (w : World) (g : Nat) (cur : Array Value) (T : TypeId) (v0 v1 v2 : Value) (h : w.heap[g]? = some (.cells cur T (0,0))) (hs : cur.size = 3) : (((w.setCell ⟨g,0,none⟩ v0).setCell ⟨g,1,none⟩ v1).setCell ⟨g,2,none⟩ v2).cell? ⟨g,0,none⟩ = some v0 ∧ (((w.setCell ⟨g,0,none⟩ v0).setCell ⟨g,1,none⟩ v1).setCell ⟨g,2,none⟩ v2).cell? ⟨g,1,none⟩ = some v1 ∧ (((w.setCell ⟨g,0,none⟩ v0).setCell ⟨g,1,none⟩ v1).setCell ⟨g,2,none⟩ v2).cell? ⟨g,2,none⟩ = some v2 := by
 have h0 : CA g cur T w := h
 have h1 := CA.set (k := 0) h0 v0
 have h2 := CA.set (k := 1) h1 v1
 have h3 := CA.set (k := 2) h2 v2
 refine ⟨?_,?_,?_⟩
 all_goals exact h3.at (by simp [Array.getElem?_setIfInBounds,hs])
theorem cells_9 (w : World) (g : Nat) (cur : Array Value) (T : TypeId) (v0 v1 v2 v3 v4 v5 v6 v7 v8 : Value) (h : w.heap[g]? = some (.cells cur T (0,0))) (hs : cur.size = 9) : (((((((((w.setCell ⟨g,0,none⟩ v0).setCell ⟨g,1,none⟩ v1).setCell ⟨g,2,none⟩ v2).setCell ⟨g,3,none⟩ v3).setCell ⟨g,4,none⟩ v4).setCell ⟨g,5,none⟩ v5).setCell ⟨g,6,none⟩ v6).setCell ⟨g,7,none⟩ v7).setCell ⟨g,8,none⟩ v8).cell? ⟨g,0,none⟩ = some v0 ∧ (((((((((w.setCell ⟨g,0,none⟩ v0).setCell ⟨g,1,none⟩ v1).setCell ⟨g,2,none⟩ v2).setCell ⟨g,3,none⟩ v3).setCell ⟨g,4,none⟩ v4).setCell ⟨g,5,none⟩ v5).setCell ⟨g,6,none⟩ v6).setCell ⟨g,7,none⟩ v7).setCell ⟨g,8,none⟩ v8).cell? ⟨g,1,none⟩ = some v1 ∧ (((((((((w.setCell ⟨g,0,none⟩ v0).setCell ⟨g,1,none⟩ v1).setCell ⟨g,2,none⟩ v2).setCell ⟨g,3,none⟩ v3).setCell ⟨g,4,none⟩ v4).setCell ⟨g,5,none⟩ v5).setCell ⟨g,6,none⟩ v6).setCell ⟨g,7,none⟩ v7).setCell ⟨g,8,none⟩ v8).cell? ⟨g,2,none⟩ = some v2 ∧ (((((((((w.setCell ⟨g,0,none⟩ v0).setCell ⟨g,1,none⟩ v1).setCell ⟨g,2,none⟩ v2).setCell ⟨g,3,none⟩ v3).setCell ⟨g,4,none⟩ v4).setCell ⟨g,5,none⟩ v5).setCell ⟨g,6,none⟩ v6).setCell ⟨g,7,none⟩ v7).setCell ⟨g,8,none⟩ v8).cell? ⟨g,3,none⟩ = some v3 ∧ (((((((((w.setCell ⟨g,0,none⟩ v0).setCell ⟨g,1,none⟩ v1).setCell ⟨g,2,none⟩ v2).setCell ⟨g,3,none⟩ v3).setCell ⟨g,4,none⟩ v4).setCell ⟨g,5,none⟩ v5).setCell ⟨g,6,none⟩ v6).setCell ⟨g,7,none⟩ v7).setCell ⟨g,8,none⟩ v8).cell? ⟨g,4,none⟩ = some v4 ∧ (((((((((w.setCell ⟨g,0,none⟩ v0).setCell ⟨g,1,none⟩ v1).setCell ⟨g,2,none⟩ v2).setCell ⟨g,3,none⟩ v3).setCell ⟨g,4,none⟩ v4).setCell ⟨g,5,none⟩ v5).setCell ⟨g,6,none⟩ v6).setCell ⟨g,7,none⟩ v7).setCell ⟨g,8,none⟩ v8).cell? ⟨g,5,none⟩ = some v5 ∧ (((((((((w.setCell ⟨g,0,none⟩ v0).setCell ⟨g,1,none⟩ v1).setCell ⟨g,2,none⟩ v2).setCell ⟨g,3,none⟩ v3).setCell ⟨g,4,none⟩ v4).setCell ⟨g,5,none⟩ v5).setCell ⟨g,6,none⟩ v6).setCell ⟨g,7,none⟩ v7).setCell ⟨g,8,none⟩ v8).cell? ⟨g,6,none⟩ = some v6 ∧ (((((((((w.setCell ⟨g,0,none⟩ v0).setCell ⟨g,1,none⟩ v1).setCell ⟨g,2,none⟩ v2).setCell ⟨g,3,none⟩ v3).setCell ⟨g,4,none⟩ v4).setCell ⟨g,5,none⟩ v5).setCell ⟨g,6,none⟩ v6).setCell ⟨g,7,none⟩ v7).setCell ⟨g,8,none⟩ v8).cell? ⟨g,7,none⟩ = some v7 ∧ (((((((((w.setCell ⟨g,0,none⟩ v0).setCell ⟨g,1,none⟩ v1).setCell ⟨g,2,none⟩ v2).setCell ⟨g,3,none⟩ v3).setCell ⟨g,4,none⟩ v4).setCell ⟨g,5,none⟩ v5).setCell ⟨g,6,none⟩ v6).setCell ⟨g,7,none⟩ v7).setCell ⟨g,8,none⟩ v8).cell? ⟨g,8,none⟩ = some v8 := by
 have h0 : CA g cur T w := h
 have h1 := CA.set (k := 0) h0 v0
 have h2 := CA.set (k := 1) h1 v1
 have h3 := CA.set (k := 2) h2 v2
 have h4 := CA.set (k := 3) h3 v3
 have h5 := CA.set (k := 4) h4 v4
 have h6 := CA.set (k := 5) h5 v5
 have h7 := CA.set (k := 6) h6 v6
 have h8 := CA.set (k := 7) h7 v7
 have h9 := CA.set (k := 8) h8 v8
 refine ⟨?_,?_,?_,?_,?_,?_,?_,?_,?_⟩
 all_goals exact h9.at (by simp [Array.getElem?_setIfInBounds,hs])
theorem cop_nil_58 (k : Nat) (w : World) : Calls Tryz.prog 62 #[.slice none 0 0,.func (.func k) #[] #[]] w fun e w' => e = .returned (.slice none 0 0) ∧ w = w' := by
 have hq := fun W => Lib.run_eql_slice_nil (P := Tryz.prog) W 23 74 none 0 0 0 0 Tryz.underlying23
 go_enter Tryz.func62,Tryz.ntmps62
 go_wp2
 go_ret
 exact ⟨rfl,rfl⟩
theorem cop_nil_62 (k : Nat) (w : World) : Calls Tryz.prog 66 #[.slice none 0 0,.func (.func k) #[] #[]] w fun e w' => e = .returned (.slice none 0 0) ∧ w = w' := by
 have hq := fun W => Lib.run_eql_slice_nil (P := Tryz.prog) W 25 72 none 0 0 0 0 Tryz.underlying25
 go_enter Tryz.func66,Tryz.ntmps66
 go_wp2
 go_ret
 exact ⟨rfl,rfl⟩
theorem cop_nil_64 (k : Nat) (w : World) : Calls Tryz.prog 68 #[.slice none 0 0,.func (.func k) #[] #[]] w fun e w' => e = .returned (.slice none 0 0) ∧ w = w' := by
 have hq := fun W => Lib.run_eql_slice_nil (P := Tryz.prog) W 26 70 none 0 0 0 0 Tryz.underlying26
 go_enter Tryz.func68,Tryz.ntmps68
 go_wp2
 go_ret
 exact ⟨rfl,rfl⟩
theorem cop_nil_66 (k : Nat) (w : World) : Calls Tryz.prog 70 #[.slice none 0 0,.func (.func k) #[] #[]] w fun e w' => e = .returned (.slice none 0 0) ∧ w = w' := by
 have hq := fun W => Lib.run_eql_slice_nil (P := Tryz.prog) W 27 46 none 0 0 0 0 Tryz.underlying27
 go_enter Tryz.func70,Tryz.ntmps70
 go_wp2
 go_ret
 exact ⟨rfl,rfl⟩
theorem cop_nil_68 (k : Nat) (w : World) : Calls Tryz.prog 72 #[.slice none 0 0,.func (.func k) #[] #[]] w fun e w' => e = .returned (.slice none 0 0) ∧ w = w' := by
 have hq := fun W => Lib.run_eql_slice_nil (P := Tryz.prog) W 28 76 none 0 0 0 0 Tryz.underlying28
 go_enter Tryz.func72,Tryz.ntmps72
 go_wp2
 go_ret
 exact ⟨rfl,rfl⟩
theorem cop_nil_70 (k : Nat) (w : World) : Calls Tryz.prog 74 #[.slice none 0 0,.func (.func k) #[] #[]] w fun e w' => e = .returned (.slice none 0 0) ∧ w = w' := by
 have hq := fun W => Lib.run_eql_slice_nil (P := Tryz.prog) W 29 62 none 0 0 0 0 Tryz.underlying29
 go_enter Tryz.func74,Tryz.ntmps74
 go_wp2
 go_ret
 exact ⟨rfl,rfl⟩
theorem cop_nil_72 (k : Nat) (w : World) : Calls Tryz.prog 76 #[.slice none 0 0,.func (.func k) #[] #[]] w fun e w' => e = .returned (.slice none 0 0) ∧ w = w' := by
 have hq := fun W => Lib.run_eql_slice_nil (P := Tryz.prog) W 30 64 none 0 0 0 0 Tryz.underlying30
 go_enter Tryz.func76,Tryz.ntmps76
 go_wp2
 go_ret
 exact ⟨rfl,rfl⟩
theorem cop_nil_109 (k : Nat) (w : World) : Calls Tryz.prog 157 #[.slice none 0 0,.func (.func k) #[] #[]] w fun e w' => e = .returned (.slice none 0 0) ∧ w = w' := by
 have hq := fun W => Lib.run_eql_slice_nil (P := Tryz.prog) W 36 3 none 0 0 0 0 Tryz.underlying36
 go_enter Tryz.func157,Tryz.ntmps157
 go_wp2
 go_ret
 exact ⟨rfl,rfl⟩
theorem cop_nil_130 (k : Nat) (w : World) : Calls Tryz.prog 222 #[.slice none 0 0,.func (.func k) #[] #[]] w fun e w' => e = .returned (.slice none 0 0) ∧ w = w' := by
 have hq := fun W => Lib.run_eql_slice_nil (P := Tryz.prog) W 37 39 none 0 0 0 0 Tryz.underlying37
 go_enter Tryz.func222,Tryz.ntmps222
 go_wp2
 go_ret
 exact ⟨rfl,rfl⟩
theorem info3 : (Tryz.prog.info? 3).map (fun i => (i.zero,i.size,i.bytes)) = some (some (.int .i64 0),1,8) := by kernel_rfl
set_option maxHeartbeats 8000000 in
theorem cop_int (k : Nat) (eg : ∀ args w,(callFunc k args).run Tryz.prog w = .ok (.enter k args) w) (X : Nat → World → Prop) (hXm : ∀ s s'  W,s' ≤ s → X s  W → X s'  W) (hXs : ∀ s  W r j v,r < s → X s  W → X s  (W.setCell ⟨r,j,none⟩ v))
  (g o c : Nat) (t0 : Int) (w : World) (hg : g < w.heap.size) (hx : w.cell? ⟨g,o,none⟩ = some (.int .i64 t0))
  (hP : ∀ W,Below w.heap.size w W → Calls Tryz.prog k #[.int .i64 t0] W fun e w' => e = .returned (.int .i64 t0) ∧ X W.heap.size  w' ∧ Below W.heap.size W w') :
  Calls Tryz.prog 157 #[.slice (some ⟨g,o,none⟩) 1 c,.func (.func k) #[] #[]] w fun e w' => ∃ r ,e = .returned (.slice (some ⟨r,0,none⟩) 1 1) ∧ w.heap.size ≤ r ∧ r < w'.heap.size ∧ (w'.cell? ⟨r,0,none⟩ = some (.int .i64 t0)) ∧ X w.heap.size  w' ∧ Below w.heap.size w w' := by
 obtain ⟨i0,hi,hz0,hz1,hz2⟩ := info_parts info3
 have HP := fun W h => hid (hP W h)
 have HM := hid hXm
 have HSS := hid hXs
 have x0 := hx
 have hq := fun W => Lib.run_eql_slice_nil (P := Tryz.prog) W 36 3 (some ⟨g,o,none⟩) 1 c 0 0 Tryz.underlying36
 clear hP hXm hXs
 go_enter Tryz.func157,Tryz.ntmps157
 go_wp2_with (at_make; refine wpList_make_full _ rfl _ _ 36 rfl w.heap.size 3 i0 (.int .i64 0) 1 Tryz.underlying36 hi hz0 hz1 .i64 .i64 _ _ 1 rfl rfl rfl rfl (by rw [hz2]; omega) (by unfold maxLen; omega) (Nat.le_refl _) ?_; intro w2 hown2 hgrow2)
 have HB2 := hid ((Below.refl w.heap.size w).grown hgrow2 (Nat.le_refl _) (by simp))
 have HO2 := hid hown2
 clear hown2 hgrow2
 obtain ⟨xs,hxs⟩ : ∃ xs,xs = (madeCells (.int .i64 0 : Value).cells (1 * 1)).toList := ⟨_,rfl⟩
 have hxl : xs = [.int .i64 0] := by rw [hxs]; simp [madeCells,Value.cells,List.range_succ]
 rw [← hxs,hxl] at HO2
 clear hxs hxl
 go_loopw [15] (fun vi wr => (vi = .int .i64 0 ∧ Hid (wr.ownsRow w.heap.size 3 1 (.slice (some ⟨w.heap.size,0,none⟩) 1 1) 1 [.int .i64 0] ∧ Below w.heap.size w wr)) ∨ (vi = .int .i64 1 ∧ Hid (∃ _u : Unit,w.heap.size < wr.heap.size ∧ (wr.cell? ⟨w.heap.size,0,none⟩ = some (.int .i64 t0)) ∧ X w.heap.size  wr ∧ Below w.heap.size w wr))) (fun vi _ => (1 - intOf vi).toNat)
 case atStart => exact .inl ⟨rfl,HO2.out,HB2.out⟩
 case round =>
  rcases hrel with ⟨rfl,HI⟩ | ⟨rfl,HI⟩
  ·have hgr : w.heap.size < wr.heap.size := (HI.out.1.lt w.heap.size rfl).2
   have y0 := (HI.out.2.cell (p := ⟨g,o,none⟩) hg).trans x0
   have HPW := HP wr HI.out.2
   have z0 : wr.cell? ⟨w.heap.size,0,none⟩ = some (.int .i64 0) := HI.out.1.cellAt 0 (by decide)
   have f0 : wr.frozen? ⟨w.heap.size,0,none⟩ = false := HI.out.1.frozenAt 0
   have hgW : w.heap.size < wr.heap.size := hgr
   have HZ : Hid (wr.cell? ⟨w.heap.size,0,none⟩ = some (.int .i64 0) ∧ wr.frozen? ⟨w.heap.size,0,none⟩ = false) := ⟨z0,f0⟩
   clear z0 f0
   have HGW := hid hgW
   go_wp2_with (go_at_fn k; (with_reducible refine HPW.out.mono ?_); rintro e w3 ⟨rfl,hx3,hb3⟩; have a0 := (hb3.cell (p := ⟨w.heap.size,0,none⟩) HGW.out).trans HZ.out.1; have b0 := (hb3.frozen (p := ⟨w.heap.size,0,none⟩) HGW.out).trans HZ.out.2; have HX3 := hid hx3; have HK3 := hid (fun (kk : Nat) (hk : kk < wr.heap.size) => show w3.heap[kk]? = wr.heap[kk]? from hb3.block kk hk); have HB3 := hid (HI.out.2.trans (hb3.mono HI.out.2.size)); have HS3 := hid (Nat.lt_of_lt_of_le HGW.out hb3.size); clear hx3 hb3)
   go_roundw
   case rel =>
    have hca : ∃ cur,w3.heap[w.heap.size]? = some (.cells cur 3 (0,0)) ∧ cur.size = 1 := by
     obtain ⟨gq,capq,curq,e1,_,e3,_,_,e6,_⟩ := (HI.out.1.2.resolve_left (by rintro ⟨h,_⟩; cases h))
     simp only [Value.slice.injEq,Option.some.injEq,Addr.mk.injEq] at e1
     obtain ⟨⟨rfl,-,-⟩,-,rfl⟩ := e1
     exact ⟨curq,by rw [HK3.out _ hgr,e3],by rw [e6]⟩
    obtain ⟨cur,hc0,hsz⟩ := hca
    have hcl := cells_1 w3 w.heap.size cur 3 (.int .i64 t0) hc0 hsz
    exact .inr ⟨rfl,⟨(),by simp only [World.setCell,Array.size_modify]; exact HS3.out,hcl,HM.out _ _  _ (Nat.le_of_lt HGW.out) (HSS.out _  _ w.heap.size 0 _ HGW.out HX3.out),(HB3.out.setCell (p := ⟨w.heap.size,0,none⟩) (Nat.le_refl _) (.int .i64 t0))⟩⟩
   case measure => simp [intOf]
  ·obtain ⟨_,h1,h2,h3,h4⟩ := HI.out
   have HE := hid (show w.heap.size < wr.heap.size ∧ _ ∧ _ ∧ _ from ⟨h1,h2,h3,h4⟩)
   clear h1 h2 h3 h4 HI
   go_wp2
   go_ret
   exact ⟨w.heap.size,rfl,Nat.le_refl _,HE.out.1,HE.out.2.1,HE.out.2.2.1,HE.out.2.2.2⟩
end Go.Proofs.YtjgeedgphcjhoaaGreat
namespace Go.Proofs.YtjgeedgphcjhoaaGreat
open Go.RowKit
theorem info56 : (Tryz.prog.info? 67).map (fun i => (i.zero,i.size,i.bytes)) = some (some (.agg #[.slice none 0 0,.slice none 0 0]),2,48) := by kernel_rfl
set_option maxHeartbeats 8000000 in
theorem cop_ft (k : Nat) (eg : ∀ args w,(callFunc k args).run Tryz.prog w = .ok (.enter k args) w) (X : Nat → (Option Addr × Nat × Nat) → (Option Addr × Nat × Nat) → World → Prop) (hXm : ∀ s s' q0 q1 W,s' ≤ s → X s q0 q1 W → X s' q0 q1 W) (hXs : ∀ s q0 q1 W r j v,r < s → X s q0 q1 W → X s q0 q1 (W.setCell ⟨r,j,none⟩ v))
  (g o c : Nat) (p0 : Option Addr) (n0 c0 : Nat) (p1 : Option Addr) (n1 c1 : Nat) (w : World) (hg : g < w.heap.size) (hx : w.cell? ⟨g,o,none⟩ = some (.slice p0 n0 c0) ∧ w.cell? ⟨g,o + 1,none⟩ = some (.slice p1 n1 c1))
  (hP : ∀ W,Below w.heap.size w W → Calls Tryz.prog k #[.agg #[.slice p0 n0 c0,.slice p1 n1 c1]] W fun e w' => ∃ q0 q1,e = .returned (.agg #[.slice q0.1 q0.2.1 q0.2.2,.slice q1.1 q1.2.1 q1.2.2]) ∧ X W.heap.size q0 q1 w' ∧ Below W.heap.size W w') :
  Calls Tryz.prog 60 #[.slice (some ⟨g,o,none⟩) 1 c,.func (.func k) #[] #[]] w fun e w' => ∃ r q0 q1,e = .returned (.slice (some ⟨r,0,none⟩) 1 1) ∧ w.heap.size ≤ r ∧ r < w'.heap.size ∧ (w'.cell? ⟨r,0,none⟩ = some (.slice q0.1 q0.2.1 q0.2.2) ∧ w'.cell? ⟨r,1,none⟩ = some (.slice q1.1 q1.2.1 q1.2.2)) ∧ X w.heap.size q0 q1 w' ∧ Below w.heap.size w w' := by
 obtain ⟨i0,hi,hz0,hz1,hz2⟩ := info_parts info56
 have HP := fun W h => hid (hP W h)
 have HM := hid hXm
 have HSS := hid hXs
 obtain ⟨x0,x1⟩ := hx
 have hq := fun W => Lib.run_eql_slice_nil (P := Tryz.prog) W 22 67 (some ⟨g,o,none⟩) 1 c 0 0 Tryz.underlying22
 clear hP hXm hXs
 go_enter Tryz.func60,Tryz.ntmps60
 go_wp2_with (at_make; refine wpList_make_full _ rfl _ _ 22 rfl w.heap.size 67 i0 (.agg #[.slice none 0 0,.slice none 0 0]) 2 Tryz.underlying22 hi hz0 hz1 .i64 .i64 _ _ 1 rfl rfl rfl rfl (by rw [hz2]; omega) (by unfold maxLen; omega) (Nat.le_refl _) ?_; intro w2 hown2 hgrow2)
 have HB2 := hid ((Below.refl w.heap.size w).grown hgrow2 (Nat.le_refl _) (by simp))
 have HO2 := hid hown2
 clear hown2 hgrow2
 obtain ⟨xs,hxs⟩ : ∃ xs,xs = (madeCells (.agg #[.slice none 0 0,.slice none 0 0] : Value).cells (1 * 2)).toList := ⟨_,rfl⟩
 have hxl : xs = [.slice none 0 0,.slice none 0 0] := by rw [hxs]; simp [madeCells,Value.cells,List.range_succ]
 rw [← hxs,hxl] at HO2
 clear hxs hxl
 go_loopw [15] (fun vi wr => (vi = .int .i64 0 ∧ Hid (wr.ownsRow w.heap.size 67 2 (.slice (some ⟨w.heap.size,0,none⟩) 1 1) 1 [.slice none 0 0,.slice none 0 0] ∧ Below w.heap.size w wr)) ∨ (vi = .int .i64 1 ∧ Hid (∃ q0 q1,w.heap.size < wr.heap.size ∧ (wr.cell? ⟨w.heap.size,0,none⟩ = some (.slice q0.1 q0.2.1 q0.2.2) ∧ wr.cell? ⟨w.heap.size,1,none⟩ = some (.slice q1.1 q1.2.1 q1.2.2)) ∧ X w.heap.size q0 q1 wr ∧ Below w.heap.size w wr))) (fun vi _ => (1 - intOf vi).toNat)
 case atStart => exact .inl ⟨rfl,HO2.out,HB2.out⟩
 case round =>
  rcases hrel with ⟨rfl,HI⟩ | ⟨rfl,HI⟩
  ·have hgr : w.heap.size < wr.heap.size := (HI.out.1.lt w.heap.size rfl).2
   have y0 := (HI.out.2.cell (p := ⟨g,o,none⟩) hg).trans x0
   have y1 := (HI.out.2.cell (p := ⟨g,o + 1,none⟩) hg).trans x1
   have HBX := hid (HI.out.2.alloc HI.out.2.size (.cells #[.slice p0 n0 c0,.slice p1 n1 c1] 67))
   have HPW := HP (wr.alloc (.cells #[.slice p0 n0 c0,.slice p1 n1 c1] 67)) HBX.out
   have z0 : (wr.alloc (.cells #[.slice p0 n0 c0,.slice p1 n1 c1] 67)).cell? ⟨w.heap.size,0,none⟩ = some (.slice none 0 0) := ((Below.refl wr.heap.size wr).alloc (Nat.le_refl _) (.cells #[.slice p0 n0 c0,.slice p1 n1 c1] 67)).cell (p := ⟨w.heap.size,0,none⟩) hgr |>.trans (HI.out.1.cellAt 0 (by decide))
   have f0 : (wr.alloc (.cells #[.slice p0 n0 c0,.slice p1 n1 c1] 67)).frozen? ⟨w.heap.size,0,none⟩ = false := ((Below.refl wr.heap.size wr).alloc (Nat.le_refl _) (.cells #[.slice p0 n0 c0,.slice p1 n1 c1] 67)).frozen (p := ⟨w.heap.size,0,none⟩) hgr |>.trans (HI.out.1.frozenAt 0)
   have z1 : (wr.alloc (.cells #[.slice p0 n0 c0,.slice p1 n1 c1] 67)).cell? ⟨w.heap.size,1,none⟩ = some (.slice none 0 0) := ((Below.refl wr.heap.size wr).alloc (Nat.le_refl _) (.cells #[.slice p0 n0 c0,.slice p1 n1 c1] 67)).cell (p := ⟨w.heap.size,1,none⟩) hgr |>.trans (HI.out.1.cellAt 1 (by decide))
   have f1 : (wr.alloc (.cells #[.slice p0 n0 c0,.slice p1 n1 c1] 67)).frozen? ⟨w.heap.size,1,none⟩ = false := ((Below.refl wr.heap.size wr).alloc (Nat.le_refl _) (.cells #[.slice p0 n0 c0,.slice p1 n1 c1] 67)).frozen (p := ⟨w.heap.size,1,none⟩) hgr |>.trans (HI.out.1.frozenAt 1)
   have hgW : w.heap.size < (wr.alloc (.cells #[.slice p0 n0 c0,.slice p1 n1 c1] 67)).heap.size := by rw [size_al]; omega
   have HZ : Hid ((wr.alloc (.cells #[.slice p0 n0 c0,.slice p1 n1 c1] 67)).cell? ⟨w.heap.size,0,none⟩ = some (.slice none 0 0) ∧ (wr.alloc (.cells #[.slice p0 n0 c0,.slice p1 n1 c1] 67)).cell? ⟨w.heap.size,1,none⟩ = some (.slice none 0 0) ∧ (wr.alloc (.cells #[.slice p0 n0 c0,.slice p1 n1 c1] 67)).frozen? ⟨w.heap.size,0,none⟩ = false ∧ (wr.alloc (.cells #[.slice p0 n0 c0,.slice p1 n1 c1] 67)).frozen? ⟨w.heap.size,1,none⟩ = false) := ⟨z0,z1,f0,f1⟩
   clear z0 f0 z1 f1
   have HGW := hid hgW
   go_wp2_with (go_at_fn k; (with_reducible refine HPW.out.mono ?_); rintro e w3 ⟨q0,q1,rfl,hx3,hb3⟩; obtain ⟨q0a,q0b,q0c⟩ := q0; obtain ⟨q1a,q1b,q1c⟩ := q1; have a0 := (hb3.cell (p := ⟨w.heap.size,0,none⟩) HGW.out).trans HZ.out.1; have a1 := (hb3.cell (p := ⟨w.heap.size,1,none⟩) HGW.out).trans HZ.out.2.1; have b0 := (hb3.frozen (p := ⟨w.heap.size,0,none⟩) HGW.out).trans HZ.out.2.2.1; have b1 := (hb3.frozen (p := ⟨w.heap.size,1,none⟩) HGW.out).trans HZ.out.2.2.2; have HX3 := hid hx3; have HK3 := hid (fun (kk : Nat) (hk : kk < wr.heap.size) => show w3.heap[kk]? = wr.heap[kk]? from (hb3.block kk (by rw [size_al]; omega)).trans (Below.heap_alloc _ _ _ hk)); have HB3 := hid (HBX.out.trans (hb3.mono HBX.out.size)); have HS3 := hid (Nat.lt_of_lt_of_le HGW.out hb3.size); clear hx3 hb3)
   go_roundw
   case rel =>
    have hca : ∃ cur,w3.heap[w.heap.size]? = some (.cells cur 67 (0,0)) ∧ cur.size = 2 := by
     obtain ⟨gq,capq,curq,e1,_,e3,_,_,e6,_⟩ := (HI.out.1.2.resolve_left (by rintro ⟨h,_⟩; cases h))
     simp only [Value.slice.injEq,Option.some.injEq,Addr.mk.injEq] at e1
     obtain ⟨⟨rfl,-,-⟩,-,rfl⟩ := e1
     exact ⟨curq,by rw [HK3.out _ hgr,e3],by rw [e6]⟩
    obtain ⟨cur,hc0,hsz⟩ := hca
    have hcl := cells_2 w3 w.heap.size cur 67 (.slice q0a q0b q0c) (.slice q1a q1b q1c) hc0 hsz
    exact .inr ⟨rfl,⟨(q0a,q0b,q0c),(q1a,q1b,q1c),by simp only [World.setCell,Array.size_modify]; exact HS3.out,hcl,HM.out _ _ (q0a,q0b,q0c) (q1a,q1b,q1c) _ (Nat.le_of_lt HGW.out) (HSS.out _ (q0a,q0b,q0c) (q1a,q1b,q1c) _ w.heap.size 1 _ HGW.out (HSS.out _ (q0a,q0b,q0c) (q1a,q1b,q1c) _ w.heap.size 0 _ HGW.out HX3.out)),((HB3.out.setCell (p := ⟨w.heap.size,0,none⟩) (Nat.le_refl _) (.slice q0a q0b q0c)).setCell (p := ⟨w.heap.size,1,none⟩) (Nat.le_refl _) (.slice q1a q1b q1c))⟩⟩
   case measure => simp [intOf]
  ·obtain ⟨q0,q1,h1,h2,h3,h4⟩ := HI.out
   have HE := hid (show w.heap.size < wr.heap.size ∧ _ ∧ _ ∧ _ from ⟨h1,h2,h3,h4⟩)
   clear h1 h2 h3 h4 HI
   go_wp2
   go_ret
   exact ⟨w.heap.size,q0,q1,rfl,Nat.le_refl _,HE.out.1,HE.out.2.1,HE.out.2.2.1,HE.out.2.2.2⟩
theorem info42 : (Tryz.prog.info? 42).map (fun i => (i.zero,i.size,i.bytes)) = some (some (.agg #[.int .i64 0,.slice none 0 0,.slice none 0 0]),3,56) := by kernel_rfl
set_option maxHeartbeats 8000000 in
theorem cop_code (k : Nat) (eg : ∀ args w,(callFunc k args).run Tryz.prog w = .ok (.enter k args) w) (X : Nat → (Option Addr × Nat × Nat) → (Option Addr × Nat × Nat) → World → Prop) (hXm : ∀ s s' q1 q2 W,s' ≤ s → X s q1 q2 W → X s' q1 q2 W) (hXs : ∀ s q1 q2 W r j v,r < s → X s q1 q2 W → X s q1 q2 (W.setCell ⟨r,j,none⟩ v))
  (g o c : Nat) (t0 : Int) (p1 : Option Addr) (n1 c1 : Nat) (p2 : Option Addr) (n2 c2 : Nat) (w : World) (hg : g < w.heap.size) (hx : w.cell? ⟨g,o,none⟩ = some (.int .i64 t0) ∧ w.cell? ⟨g,o + 1,none⟩ = some (.slice p1 n1 c1) ∧ w.cell? ⟨g,o + 2,none⟩ = some (.slice p2 n2 c2))
  (hP : ∀ W,Below w.heap.size w W → Calls Tryz.prog k #[.agg #[.int .i64 t0,.slice p1 n1 c1,.slice p2 n2 c2]] W fun e w' => ∃ q1 q2,e = .returned (.agg #[.int .i64 t0,.slice q1.1 q1.2.1 q1.2.2,.slice q2.1 q2.2.1 q2.2.2]) ∧ X W.heap.size q1 q2 w' ∧ Below W.heap.size W w') :
  Calls Tryz.prog 64 #[.slice (some ⟨g,o,none⟩) 1 c,.func (.func k) #[] #[]] w fun e w' => ∃ r q1 q2,e = .returned (.slice (some ⟨r,0,none⟩) 1 1) ∧ w.heap.size ≤ r ∧ r < w'.heap.size ∧ (w'.cell? ⟨r,0,none⟩ = some (.int .i64 t0) ∧ w'.cell? ⟨r,1,none⟩ = some (.slice q1.1 q1.2.1 q1.2.2) ∧ w'.cell? ⟨r,2,none⟩ = some (.slice q2.1 q2.2.1 q2.2.2)) ∧ X w.heap.size q1 q2 w' ∧ Below w.heap.size w w' := by
 obtain ⟨i0,hi,hz0,hz1,hz2⟩ := info_parts info42
 have HP := fun W h => hid (hP W h)
 have HM := hid hXm
 have HSS := hid hXs
 obtain ⟨x0,x1,x2⟩ := hx
 have hq := fun W => Lib.run_eql_slice_nil (P := Tryz.prog) W 24 42 (some ⟨g,o,none⟩) 1 c 0 0 Tryz.underlying24
 clear hP hXm hXs
 go_enter Tryz.func64,Tryz.ntmps64
 go_wp2_with (at_make; refine wpList_make_full _ rfl _ _ 24 rfl w.heap.size 42 i0 (.agg #[.int .i64 0,.slice none 0 0,.slice none 0 0]) 3 Tryz.underlying24 hi hz0 hz1 .i64 .i64 _ _ 1 rfl rfl rfl rfl (by rw [hz2]; omega) (by unfold maxLen; omega) (Nat.le_refl _) ?_; intro w2 hown2 hgrow2)
 have HB2 := hid ((Below.refl w.heap.size w).grown hgrow2 (Nat.le_refl _) (by simp))
 have HO2 := hid hown2
 clear hown2 hgrow2
 obtain ⟨xs,hxs⟩ : ∃ xs,xs = (madeCells (.agg #[.int .i64 0,.slice none 0 0,.slice none 0 0] : Value).cells (1 * 3)).toList := ⟨_,rfl⟩
 have hxl : xs = [.int .i64 0,.slice none 0 0,.slice none 0 0] := by rw [hxs]; simp [madeCells,Value.cells,List.range_succ]
 rw [← hxs,hxl] at HO2
 clear hxs hxl
 go_loopw [15] (fun vi wr => (vi = .int .i64 0 ∧ Hid (wr.ownsRow w.heap.size 42 3 (.slice (some ⟨w.heap.size,0,none⟩) 1 1) 1 [.int .i64 0,.slice none 0 0,.slice none 0 0] ∧ Below w.heap.size w wr)) ∨ (vi = .int .i64 1 ∧ Hid (∃ q1 q2,w.heap.size < wr.heap.size ∧ (wr.cell? ⟨w.heap.size,0,none⟩ = some (.int .i64 t0) ∧ wr.cell? ⟨w.heap.size,1,none⟩ = some (.slice q1.1 q1.2.1 q1.2.2) ∧ wr.cell? ⟨w.heap.size,2,none⟩ = some (.slice q2.1 q2.2.1 q2.2.2)) ∧ X w.heap.size q1 q2 wr ∧ Below w.heap.size w wr))) (fun vi _ => (1 - intOf vi).toNat)
 case atStart => exact .inl ⟨rfl,HO2.out,HB2.out⟩
 case round =>
  rcases hrel with ⟨rfl,HI⟩ | ⟨rfl,HI⟩
  ·have hgr : w.heap.size < wr.heap.size := (HI.out.1.lt w.heap.size rfl).2
   have y0 := (HI.out.2.cell (p := ⟨g,o,none⟩) hg).trans x0
   have y1 := (HI.out.2.cell (p := ⟨g,o + 1,none⟩) hg).trans x1
   have y2 := (HI.out.2.cell (p := ⟨g,o + 2,none⟩) hg).trans x2
   have HBX := hid (HI.out.2.alloc HI.out.2.size (.cells #[.int .i64 t0,.slice p1 n1 c1,.slice p2 n2 c2] 42))
   have HPW := HP (wr.alloc (.cells #[.int .i64 t0,.slice p1 n1 c1,.slice p2 n2 c2] 42)) HBX.out
   have z0 : (wr.alloc (.cells #[.int .i64 t0,.slice p1 n1 c1,.slice p2 n2 c2] 42)).cell? ⟨w.heap.size,0,none⟩ = some (.int .i64 0) := ((Below.refl wr.heap.size wr).alloc (Nat.le_refl _) (.cells #[.int .i64 t0,.slice p1 n1 c1,.slice p2 n2 c2] 42)).cell (p := ⟨w.heap.size,0,none⟩) hgr |>.trans (HI.out.1.cellAt 0 (by decide))
   have f0 : (wr.alloc (.cells #[.int .i64 t0,.slice p1 n1 c1,.slice p2 n2 c2] 42)).frozen? ⟨w.heap.size,0,none⟩ = false := ((Below.refl wr.heap.size wr).alloc (Nat.le_refl _) (.cells #[.int .i64 t0,.slice p1 n1 c1,.slice p2 n2 c2] 42)).frozen (p := ⟨w.heap.size,0,none⟩) hgr |>.trans (HI.out.1.frozenAt 0)
   have z1 : (wr.alloc (.cells #[.int .i64 t0,.slice p1 n1 c1,.slice p2 n2 c2] 42)).cell? ⟨w.heap.size,1,none⟩ = some (.slice none 0 0) := ((Below.refl wr.heap.size wr).alloc (Nat.le_refl _) (.cells #[.int .i64 t0,.slice p1 n1 c1,.slice p2 n2 c2] 42)).cell (p := ⟨w.heap.size,1,none⟩) hgr |>.trans (HI.out.1.cellAt 1 (by decide))
   have f1 : (wr.alloc (.cells #[.int .i64 t0,.slice p1 n1 c1,.slice p2 n2 c2] 42)).frozen? ⟨w.heap.size,1,none⟩ = false := ((Below.refl wr.heap.size wr).alloc (Nat.le_refl _) (.cells #[.int .i64 t0,.slice p1 n1 c1,.slice p2 n2 c2] 42)).frozen (p := ⟨w.heap.size,1,none⟩) hgr |>.trans (HI.out.1.frozenAt 1)
   have z2 : (wr.alloc (.cells #[.int .i64 t0,.slice p1 n1 c1,.slice p2 n2 c2] 42)).cell? ⟨w.heap.size,2,none⟩ = some (.slice none 0 0) := ((Below.refl wr.heap.size wr).alloc (Nat.le_refl _) (.cells #[.int .i64 t0,.slice p1 n1 c1,.slice p2 n2 c2] 42)).cell (p := ⟨w.heap.size,2,none⟩) hgr |>.trans (HI.out.1.cellAt 2 (by decide))
   have f2 : (wr.alloc (.cells #[.int .i64 t0,.slice p1 n1 c1,.slice p2 n2 c2] 42)).frozen? ⟨w.heap.size,2,none⟩ = false := ((Below.refl wr.heap.size wr).alloc (Nat.le_refl _) (.cells #[.int .i64 t0,.slice p1 n1 c1,.slice p2 n2 c2] 42)).frozen (p := ⟨w.heap.size,2,none⟩) hgr |>.trans (HI.out.1.frozenAt 2)
   have hgW : w.heap.size < (wr.alloc (.cells #[.int .i64 t0,.slice p1 n1 c1,.slice p2 n2 c2] 42)).heap.size := by rw [size_al]; omega
   have HZ : Hid ((wr.alloc (.cells #[.int .i64 t0,.slice p1 n1 c1,.slice p2 n2 c2] 42)).cell? ⟨w.heap.size,0,none⟩ = some (.int .i64 0) ∧ (wr.alloc (.cells #[.int .i64 t0,.slice p1 n1 c1,.slice p2 n2 c2] 42)).cell? ⟨w.heap.size,1,none⟩ = some (.slice none 0 0) ∧ (wr.alloc (.cells #[.int .i64 t0,.slice p1 n1 c1,.slice p2 n2 c2] 42)).cell? ⟨w.heap.size,2,none⟩ = some (.slice none 0 0) ∧ (wr.alloc (.cells #[.int .i64 t0,.slice p1 n1 c1,.slice p2 n2 c2] 42)).frozen? ⟨w.heap.size,0,none⟩ = false ∧ (wr.alloc (.cells #[.int .i64 t0,.slice p1 n1 c1,.slice p2 n2 c2] 42)).frozen? ⟨w.heap.size,1,none⟩ = false ∧ (wr.alloc (.cells #[.int .i64 t0,.slice p1 n1 c1,.slice p2 n2 c2] 42)).frozen? ⟨w.heap.size,2,none⟩ = false) := ⟨z0,z1,z2,f0,f1,f2⟩
   clear z0 f0 z1 f1 z2 f2
   have HGW := hid hgW
   go_wp2_with (go_at_fn k; (with_reducible refine HPW.out.mono ?_); rintro e w3 ⟨q1,q2,rfl,hx3,hb3⟩; obtain ⟨q1a,q1b,q1c⟩ := q1; obtain ⟨q2a,q2b,q2c⟩ := q2; have a0 := (hb3.cell (p := ⟨w.heap.size,0,none⟩) HGW.out).trans HZ.out.1; have a1 := (hb3.cell (p := ⟨w.heap.size,1,none⟩) HGW.out).trans HZ.out.2.1; have a2 := (hb3.cell (p := ⟨w.heap.size,2,none⟩) HGW.out).trans HZ.out.2.2.1; have b0 := (hb3.frozen (p := ⟨w.heap.size,0,none⟩) HGW.out).trans HZ.out.2.2.2.1; have b1 := (hb3.frozen (p := ⟨w.heap.size,1,none⟩) HGW.out).trans HZ.out.2.2.2.2.1; have b2 := (hb3.frozen (p := ⟨w.heap.size,2,none⟩) HGW.out).trans HZ.out.2.2.2.2.2; have HX3 := hid hx3; have HK3 := hid (fun (kk : Nat) (hk : kk < wr.heap.size) => show w3.heap[kk]? = wr.heap[kk]? from (hb3.block kk (by rw [size_al]; omega)).trans (Below.heap_alloc _ _ _ hk)); have HB3 := hid (HBX.out.trans (hb3.mono HBX.out.size)); have HS3 := hid (Nat.lt_of_lt_of_le HGW.out hb3.size); clear hx3 hb3)
   go_roundw
   case rel =>
    have hca : ∃ cur,w3.heap[w.heap.size]? = some (.cells cur 42 (0,0)) ∧ cur.size = 3 := by
     obtain ⟨gq,capq,curq,e1,_,e3,_,_,e6,_⟩ := (HI.out.1.2.resolve_left (by rintro ⟨h,_⟩; cases h))
     simp only [Value.slice.injEq,Option.some.injEq,Addr.mk.injEq] at e1
     obtain ⟨⟨rfl,-,-⟩,-,rfl⟩ := e1
     exact ⟨curq,by rw [HK3.out _ hgr,e3],by rw [e6]⟩
    obtain ⟨cur,hc0,hsz⟩ := hca
    have hcl := cells_3 w3 w.heap.size cur 42 (.int .i64 t0) (.slice q1a q1b q1c) (.slice q2a q2b q2c) hc0 hsz
    exact .inr ⟨rfl,⟨(q1a,q1b,q1c),(q2a,q2b,q2c),by simp only [World.setCell,Array.size_modify]; exact HS3.out,hcl,HM.out _ _ (q1a,q1b,q1c) (q2a,q2b,q2c) _ (Nat.le_of_lt HGW.out) (HSS.out _ (q1a,q1b,q1c) (q2a,q2b,q2c) _ w.heap.size 2 _ HGW.out (HSS.out _ (q1a,q1b,q1c) (q2a,q2b,q2c) _ w.heap.size 1 _ HGW.out (HSS.out _ (q1a,q1b,q1c) (q2a,q2b,q2c) _ w.heap.size 0 _ HGW.out HX3.out))),(((HB3.out.setCell (p := ⟨w.heap.size,0,none⟩) (Nat.le_refl _) (.int .i64 t0)).setCell (p := ⟨w.heap.size,1,none⟩) (Nat.le_refl _) (.slice q1a q1b q1c)).setCell (p := ⟨w.heap.size,2,none⟩) (Nat.le_refl _) (.slice q2a q2b q2c))⟩⟩
   case measure => simp [intOf]
  ·obtain ⟨q1,q2,h1,h2,h3,h4⟩ := HI.out
   have HE := hid (show w.heap.size < wr.heap.size ∧ _ ∧ _ ∧ _ from ⟨h1,h2,h3,h4⟩)
   clear h1 h2 h3 h4 HI
   go_wp2
   go_ret
   exact ⟨w.heap.size,q1,q2,rfl,Nat.le_refl _,HE.out.1,HE.out.2.1,HE.out.2.2.1,HE.out.2.2.2⟩
end Go.Proofs.YtjgeedgphcjhoaaGreat
