/-
  Cop3, Cop4: merged, what the law does not reach left out (each text says what it holds where it lies in wip). No condition.
-/
import Derived.Test.YtjgeedgphcjhoaaGreatT09
import Derived.Test.YtjgeedgphcjhoaaGreatT01
set_option linter.unusedSimpArgs false
set_option linter.unusedVariables false
set_option maxRecDepth 100000
namespace Go.Proofs.YtjgeedgphcjhoaaGreat
open Go.RowKit
theorem info39 : (Tryz.prog.info? 39).map (fun i => (i.zero,i.size,i.bytes)) = some (some (.agg #[.int .i64 0,.int .i64 0,.int .i64 0,.int .u64 0,.int .u64 0,.slice none 0 0,.slice none 0 0,.slice none 0 0,.bool false]),9,120) := by kernel_rfl
set_option maxHeartbeats 8000000 in
theorem cop_ins (k : Nat) (eg : ∀ args w,(callFunc k args).run Tryz.prog w = .ok (.enter k args) w) (X : Nat → (Option Addr × Nat × Nat) → (Option Addr × Nat × Nat) → (Option Addr × Nat × Nat) → World → Prop) (hXm : ∀ s s' q5 q6 q7 W,s' ≤ s → X s q5 q6 q7 W → X s' q5 q6 q7 W) (hXs : ∀ s q5 q6 q7 W r j v,r < s → X s q5 q6 q7 W → X s q5 q6 q7 (W.setCell ⟨r,j,none⟩ v))
  (g o c : Nat) (t0 : Int) (t1 : Int) (t2 : Int) (t3 : Nat) (t4 : Nat) (p5 : Option Addr) (n5 c5 : Nat) (p6 : Option Addr) (n6 c6 : Nat) (p7 : Option Addr) (n7 c7 : Nat) (t8 : Bool) (w : World) (hg : g < w.heap.size) (hx : w.cell? ⟨g,o,none⟩ = some (.int .i64 t0) ∧ w.cell? ⟨g,o + 1,none⟩ = some (.int .i64 t1) ∧ w.cell? ⟨g,o + 2,none⟩ = some (.int .i64 t2) ∧ w.cell? ⟨g,o + 3,none⟩ = some (.int .u64 (t3 : Nat)) ∧ w.cell? ⟨g,o + 4,none⟩ = some (.int .u64 (t4 : Nat)) ∧ w.cell? ⟨g,o + 5,none⟩ = some (.slice p5 n5 c5) ∧ w.cell? ⟨g,o + 6,none⟩ = some (.slice p6 n6 c6) ∧ w.cell? ⟨g,o + 7,none⟩ = some (.slice p7 n7 c7) ∧ w.cell? ⟨g,o + 8,none⟩ = some (.bool t8))
  (hP : ∀ W,Below w.heap.size w W → Calls Tryz.prog k #[.agg #[.int .i64 t0,.int .i64 t1,.int .i64 t2,.int .u64 (t3 : Nat),.int .u64 (t4 : Nat),.slice p5 n5 c5,.slice p6 n6 c6,.slice p7 n7 c7,.bool t8]] W fun e w' => ∃ q5 q6 q7,e = .returned (.agg #[.int .i64 t0,.int .i64 t1,.int .i64 t2,.int .u64 (t3 : Nat),.int .u64 (t4 : Nat),.slice q5.1 q5.2.1 q5.2.2,.slice q6.1 q6.2.1 q6.2.2,.slice q7.1 q7.2.1 q7.2.2,.bool t8]) ∧ X W.heap.size q5 q6 q7 w' ∧ Below W.heap.size W w') :
  Calls Tryz.prog 222 #[.slice (some ⟨g,o,none⟩) 1 c,.func (.func k) #[] #[]] w fun e w' => ∃ r q5 q6 q7,e = .returned (.slice (some ⟨r,0,none⟩) 1 1) ∧ w.heap.size ≤ r ∧ r < w'.heap.size ∧ (w'.cell? ⟨r,0,none⟩ = some (.int .i64 t0) ∧ w'.cell? ⟨r,1,none⟩ = some (.int .i64 t1) ∧ w'.cell? ⟨r,2,none⟩ = some (.int .i64 t2) ∧ w'.cell? ⟨r,3,none⟩ = some (.int .u64 (t3 : Nat)) ∧ w'.cell? ⟨r,4,none⟩ = some (.int .u64 (t4 : Nat)) ∧ w'.cell? ⟨r,5,none⟩ = some (.slice q5.1 q5.2.1 q5.2.2) ∧ w'.cell? ⟨r,6,none⟩ = some (.slice q6.1 q6.2.1 q6.2.2) ∧ w'.cell? ⟨r,7,none⟩ = some (.slice q7.1 q7.2.1 q7.2.2) ∧ w'.cell? ⟨r,8,none⟩ = some (.bool t8)) ∧ X w.heap.size q5 q6 q7 w' ∧ Below w.heap.size w w' := by
 obtain ⟨i0,hi,hz0,hz1,hz2⟩ := info_parts info39
 have HP := fun W h => hid (hP W h)
 have HM := hid hXm
 have HSS := hid hXs
 obtain ⟨x0,x1,x2,x3,x4,x5,x6,x7,x8⟩ := hx
 have hq := fun W => Lib.run_eql_slice_nil (P := Tryz.prog) W 37 39 (some ⟨g,o,none⟩) 1 c 0 0 Tryz.underlying37
 clear hP hXm hXs
 go_enter Tryz.func222,Tryz.ntmps222
 go_wp2_with (at_make; refine wpList_make_full _ rfl _ _ 37 rfl w.heap.size 39 i0 (.agg #[.int .i64 0,.int .i64 0,.int .i64 0,.int .u64 0,.int .u64 0,.slice none 0 0,.slice none 0 0,.slice none 0 0,.bool false]) 9 Tryz.underlying37 hi hz0 hz1 .i64 .i64 _ _ 1 rfl rfl rfl rfl (by rw [hz2]; omega) (by unfold maxLen; omega) (Nat.le_refl _) ?_; intro w2 hown2 hgrow2)
 have HB2 := hid ((Below.refl w.heap.size w).grown hgrow2 (Nat.le_refl _) (by simp))
 have HO2 := hid hown2
 clear hown2 hgrow2
 obtain ⟨xs,hxs⟩ : ∃ xs,xs = (madeCells (.agg #[.int .i64 0,.int .i64 0,.int .i64 0,.int .u64 0,.int .u64 0,.slice none 0 0,.slice none 0 0,.slice none 0 0,.bool false] : Value).cells (1 * 9)).toList := ⟨_,rfl⟩
 have hxl : xs = [.int .i64 0,.int .i64 0,.int .i64 0,.int .u64 0,.int .u64 0,.slice none 0 0,.slice none 0 0,.slice none 0 0,.bool false] := by rw [hxs]; simp [madeCells,Value.cells,List.range_succ]
 rw [← hxs,hxl] at HO2
 clear hxs hxl
 go_loopw [15] (fun vi wr => (vi = .int .i64 0 ∧ Hid (wr.ownsRow w.heap.size 39 9 (.slice (some ⟨w.heap.size,0,none⟩) 1 1) 1 [.int .i64 0,.int .i64 0,.int .i64 0,.int .u64 0,.int .u64 0,.slice none 0 0,.slice none 0 0,.slice none 0 0,.bool false] ∧ Below w.heap.size w wr)) ∨ (vi = .int .i64 1 ∧ Hid (∃ q5 q6 q7,w.heap.size < wr.heap.size ∧ (wr.cell? ⟨w.heap.size,0,none⟩ = some (.int .i64 t0) ∧ wr.cell? ⟨w.heap.size,1,none⟩ = some (.int .i64 t1) ∧ wr.cell? ⟨w.heap.size,2,none⟩ = some (.int .i64 t2) ∧ wr.cell? ⟨w.heap.size,3,none⟩ = some (.int .u64 (t3 : Nat)) ∧ wr.cell? ⟨w.heap.size,4,none⟩ = some (.int .u64 (t4 : Nat)) ∧ wr.cell? ⟨w.heap.size,5,none⟩ = some (.slice q5.1 q5.2.1 q5.2.2) ∧ wr.cell? ⟨w.heap.size,6,none⟩ = some (.slice q6.1 q6.2.1 q6.2.2) ∧ wr.cell? ⟨w.heap.size,7,none⟩ = some (.slice q7.1 q7.2.1 q7.2.2) ∧ wr.cell? ⟨w.heap.size,8,none⟩ = some (.bool t8)) ∧ X w.heap.size q5 q6 q7 wr ∧ Below w.heap.size w wr))) (fun vi _ => (1 - intOf vi).toNat)
 case atStart => exact .inl ⟨rfl,HO2.out,HB2.out⟩
 case round =>
  rcases hrel with ⟨rfl,HI⟩ | ⟨rfl,HI⟩
  ·have hgr : w.heap.size < wr.heap.size := (HI.out.1.lt w.heap.size rfl).2
   have y0 := (HI.out.2.cell (p := ⟨g,o,none⟩) hg).trans x0
   have y1 := (HI.out.2.cell (p := ⟨g,o + 1,none⟩) hg).trans x1
   have y2 := (HI.out.2.cell (p := ⟨g,o + 2,none⟩) hg).trans x2
   have y3 := (HI.out.2.cell (p := ⟨g,o + 3,none⟩) hg).trans x3
   have y4 := (HI.out.2.cell (p := ⟨g,o + 4,none⟩) hg).trans x4
   have y5 := (HI.out.2.cell (p := ⟨g,o + 5,none⟩) hg).trans x5
   have y6 := (HI.out.2.cell (p := ⟨g,o + 6,none⟩) hg).trans x6
   have y7 := (HI.out.2.cell (p := ⟨g,o + 7,none⟩) hg).trans x7
   have y8 := (HI.out.2.cell (p := ⟨g,o + 8,none⟩) hg).trans x8
   have HBX := hid (HI.out.2.alloc HI.out.2.size (.cells #[.int .i64 t0,.int .i64 t1,.int .i64 t2,.int .u64 (t3 : Nat),.int .u64 (t4 : Nat),.slice p5 n5 c5,.slice p6 n6 c6,.slice p7 n7 c7,.bool t8] 39))
   have HPW := HP (wr.alloc (.cells #[.int .i64 t0,.int .i64 t1,.int .i64 t2,.int .u64 (t3 : Nat),.int .u64 (t4 : Nat),.slice p5 n5 c5,.slice p6 n6 c6,.slice p7 n7 c7,.bool t8] 39)) HBX.out
   have z0 : (wr.alloc (.cells #[.int .i64 t0,.int .i64 t1,.int .i64 t2,.int .u64 (t3 : Nat),.int .u64 (t4 : Nat),.slice p5 n5 c5,.slice p6 n6 c6,.slice p7 n7 c7,.bool t8] 39)).cell? ⟨w.heap.size,0,none⟩ = some (.int .i64 0) := ((Below.refl wr.heap.size wr).alloc (Nat.le_refl _) (.cells #[.int .i64 t0,.int .i64 t1,.int .i64 t2,.int .u64 (t3 : Nat),.int .u64 (t4 : Nat),.slice p5 n5 c5,.slice p6 n6 c6,.slice p7 n7 c7,.bool t8] 39)).cell (p := ⟨w.heap.size,0,none⟩) hgr |>.trans (HI.out.1.cellAt 0 (by decide))
   have f0 : (wr.alloc (.cells #[.int .i64 t0,.int .i64 t1,.int .i64 t2,.int .u64 (t3 : Nat),.int .u64 (t4 : Nat),.slice p5 n5 c5,.slice p6 n6 c6,.slice p7 n7 c7,.bool t8] 39)).frozen? ⟨w.heap.size,0,none⟩ = false := ((Below.refl wr.heap.size wr).alloc (Nat.le_refl _) (.cells #[.int .i64 t0,.int .i64 t1,.int .i64 t2,.int .u64 (t3 : Nat),.int .u64 (t4 : Nat),.slice p5 n5 c5,.slice p6 n6 c6,.slice p7 n7 c7,.bool t8] 39)).frozen (p := ⟨w.heap.size,0,none⟩) hgr |>.trans (HI.out.1.frozenAt 0)
   have z1 : (wr.alloc (.cells #[.int .i64 t0,.int .i64 t1,.int .i64 t2,.int .u64 (t3 : Nat),.int .u64 (t4 : Nat),.slice p5 n5 c5,.slice p6 n6 c6,.slice p7 n7 c7,.bool t8] 39)).cell? ⟨w.heap.size,1,none⟩ = some (.int .i64 0) := ((Below.refl wr.heap.size wr).alloc (Nat.le_refl _) (.cells #[.int .i64 t0,.int .i64 t1,.int .i64 t2,.int .u64 (t3 : Nat),.int .u64 (t4 : Nat),.slice p5 n5 c5,.slice p6 n6 c6,.slice p7 n7 c7,.bool t8] 39)).cell (p := ⟨w.heap.size,1,none⟩) hgr |>.trans (HI.out.1.cellAt 1 (by decide))
   have f1 : (wr.alloc (.cells #[.int .i64 t0,.int .i64 t1,.int .i64 t2,.int .u64 (t3 : Nat),.int .u64 (t4 : Nat),.slice p5 n5 c5,.slice p6 n6 c6,.slice p7 n7 c7,.bool t8] 39)).frozen? ⟨w.heap.size,1,none⟩ = false := ((Below.refl wr.heap.size wr).alloc (Nat.le_refl _) (.cells #[.int .i64 t0,.int .i64 t1,.int .i64 t2,.int .u64 (t3 : Nat),.int .u64 (t4 : Nat),.slice p5 n5 c5,.slice p6 n6 c6,.slice p7 n7 c7,.bool t8] 39)).frozen (p := ⟨w.heap.size,1,none⟩) hgr |>.trans (HI.out.1.frozenAt 1)
   have z2 : (wr.alloc (.cells #[.int .i64 t0,.int .i64 t1,.int .i64 t2,.int .u64 (t3 : Nat),.int .u64 (t4 : Nat),.slice p5 n5 c5,.slice p6 n6 c6,.slice p7 n7 c7,.bool t8] 39)).cell? ⟨w.heap.size,2,none⟩ = some (.int .i64 0) := ((Below.refl wr.heap.size wr).alloc (Nat.le_refl _) (.cells #[.int .i64 t0,.int .i64 t1,.int .i64 t2,.int .u64 (t3 : Nat),.int .u64 (t4 : Nat),.slice p5 n5 c5,.slice p6 n6 c6,.slice p7 n7 c7,.bool t8] 39)).cell (p := ⟨w.heap.size,2,none⟩) hgr |>.trans (HI.out.1.cellAt 2 (by decide))
   have f2 : (wr.alloc (.cells #[.int .i64 t0,.int .i64 t1,.int .i64 t2,.int .u64 (t3 : Nat),.int .u64 (t4 : Nat),.slice p5 n5 c5,.slice p6 n6 c6,.slice p7 n7 c7,.bool t8] 39)).frozen? ⟨w.heap.size,2,none⟩ = false := ((Below.refl wr.heap.size wr).alloc (Nat.le_refl _) (.cells #[.int .i64 t0,.int .i64 t1,.int .i64 t2,.int .u64 (t3 : Nat),.int .u64 (t4 : Nat),.slice p5 n5 c5,.slice p6 n6 c6,.slice p7 n7 c7,.bool t8] 39)).frozen (p := ⟨w.heap.size,2,none⟩) hgr |>.trans (HI.out.1.frozenAt 2)
   have z3 : (wr.alloc (.cells #[.int .i64 t0,.int .i64 t1,.int .i64 t2,.int .u64 (t3 : Nat),.int .u64 (t4 : Nat),.slice p5 n5 c5,.slice p6 n6 c6,.slice p7 n7 c7,.bool t8] 39)).cell? ⟨w.heap.size,3,none⟩ = some (.int .u64 0) := ((Below.refl wr.heap.size wr).alloc (Nat.le_refl _) (.cells #[.int .i64 t0,.int .i64 t1,.int .i64 t2,.int .u64 (t3 : Nat),.int .u64 (t4 : Nat),.slice p5 n5 c5,.slice p6 n6 c6,.slice p7 n7 c7,.bool t8] 39)).cell (p := ⟨w.heap.size,3,none⟩) hgr |>.trans (HI.out.1.cellAt 3 (by decide))
   have f3 : (wr.alloc (.cells #[.int .i64 t0,.int .i64 t1,.int .i64 t2,.int .u64 (t3 : Nat),.int .u64 (t4 : Nat),.slice p5 n5 c5,.slice p6 n6 c6,.slice p7 n7 c7,.bool t8] 39)).frozen? ⟨w.heap.size,3,none⟩ = false := ((Below.refl wr.heap.size wr).alloc (Nat.le_refl _) (.cells #[.int .i64 t0,.int .i64 t1,.int .i64 t2,.int .u64 (t3 : Nat),.int .u64 (t4 : Nat),.slice p5 n5 c5,.slice p6 n6 c6,.slice p7 n7 c7,.bool t8] 39)).frozen (p := ⟨w.heap.size,3,none⟩) hgr |>.trans (HI.out.1.frozenAt 3)
   have z4 : (wr.alloc (.cells #[.int .i64 t0,.int .i64 t1,.int .i64 t2,.int .u64 (t3 : Nat),.int .u64 (t4 : Nat),.slice p5 n5 c5,.slice p6 n6 c6,.slice p7 n7 c7,.bool t8] 39)).cell? ⟨w.heap.size,4,none⟩ = some (.int .u64 0) := ((Below.refl wr.heap.size wr).alloc (Nat.le_refl _) (.cells #[.int .i64 t0,.int .i64 t1,.int .i64 t2,.int .u64 (t3 : Nat),.int .u64 (t4 : Nat),.slice p5 n5 c5,.slice p6 n6 c6,.slice p7 n7 c7,.bool t8] 39)).cell (p := ⟨w.heap.size,4,none⟩) hgr |>.trans (HI.out.1.cellAt 4 (by decide))
   have f4 : (wr.alloc (.cells #[.int .i64 t0,.int .i64 t1,.int .i64 t2,.int .u64 (t3 : Nat),.int .u64 (t4 : Nat),.slice p5 n5 c5,.slice p6 n6 c6,.slice p7 n7 c7,.bool t8] 39)).frozen? ⟨w.heap.size,4,none⟩ = false := ((Below.refl wr.heap.size wr).alloc (Nat.le_refl _) (.cells #[.int .i64 t0,.int .i64 t1,.int .i64 t2,.int .u64 (t3 : Nat),.int .u64 (t4 : Nat),.slice p5 n5 c5,.slice p6 n6 c6,.slice p7 n7 c7,.bool t8] 39)).frozen (p := ⟨w.heap.size,4,none⟩) hgr |>.trans (HI.out.1.frozenAt 4)
   have z5 : (wr.alloc (.cells #[.int .i64 t0,.int .i64 t1,.int .i64 t2,.int .u64 (t3 : Nat),.int .u64 (t4 : Nat),.slice p5 n5 c5,.slice p6 n6 c6,.slice p7 n7 c7,.bool t8] 39)).cell? ⟨w.heap.size,5,none⟩ = some (.slice none 0 0) := ((Below.refl wr.heap.size wr).alloc (Nat.le_refl _) (.cells #[.int .i64 t0,.int .i64 t1,.int .i64 t2,.int .u64 (t3 : Nat),.int .u64 (t4 : Nat),.slice p5 n5 c5,.slice p6 n6 c6,.slice p7 n7 c7,.bool t8] 39)).cell (p := ⟨w.heap.size,5,none⟩) hgr |>.trans (HI.out.1.cellAt 5 (by decide))
   have f5 : (wr.alloc (.cells #[.int .i64 t0,.int .i64 t1,.int .i64 t2,.int .u64 (t3 : Nat),.int .u64 (t4 : Nat),.slice p5 n5 c5,.slice p6 n6 c6,.slice p7 n7 c7,.bool t8] 39)).frozen? ⟨w.heap.size,5,none⟩ = false := ((Below.refl wr.heap.size wr).alloc (Nat.le_refl _) (.cells #[.int .i64 t0,.int .i64 t1,.int .i64 t2,.int .u64 (t3 : Nat),.int .u64 (t4 : Nat),.slice p5 n5 c5,.slice p6 n6 c6,.slice p7 n7 c7,.bool t8] 39)).frozen (p := ⟨w.heap.size,5,none⟩) hgr |>.trans (HI.out.1.frozenAt 5)
   have z6 : (wr.alloc (.cells #[.int .i64 t0,.int .i64 t1,.int .i64 t2,.int .u64 (t3 : Nat),.int .u64 (t4 : Nat),.slice p5 n5 c5,.slice p6 n6 c6,.slice p7 n7 c7,.bool t8] 39)).cell? ⟨w.heap.size,6,none⟩ = some (.slice none 0 0) := ((Below.refl wr.heap.size wr).alloc (Nat.le_refl _) (.cells #[.int .i64 t0,.int .i64 t1,.int .i64 t2,.int .u64 (t3 : Nat),.int .u64 (t4 : Nat),.slice p5 n5 c5,.slice p6 n6 c6,.slice p7 n7 c7,.bool t8] 39)).cell (p := ⟨w.heap.size,6,none⟩) hgr |>.trans (HI.out.1.cellAt 6 (by decide))
   have f6 : (wr.alloc (.cells #[.int .i64 t0,.int .i64 t1,.int .i64 t2,.int .u64 (t3 : Nat),.int .u64 (t4 : Nat),.slice p5 n5 c5,.slice p6 n6 c6,.slice p7 n7 c7,.bool t8] 39)).frozen? ⟨w.heap.size,6,none⟩ = false := ((Below.refl wr.heap.size wr).alloc (Nat.le_refl _) (.cells #[.int .i64 t0,.int .i64 t1,.int .i64 t2,.int .u64 (t3 : Nat),.int .u64 (t4 : Nat),.slice p5 n5 c5,.slice p6 n6 c6,.slice p7 n7 c7,.bool t8] 39)).frozen (p := ⟨w.heap.size,6,none⟩) hgr |>.trans (HI.out.1.frozenAt 6)
   have z7 : (wr.alloc (.cells #[.int .i64 t0,.int .i64 t1,.int .i64 t2,.int .u64 (t3 : Nat),.int .u64 (t4 : Nat),.slice p5 n5 c5,.slice p6 n6 c6,.slice p7 n7 c7,.bool t8] 39)).cell? ⟨w.heap.size,7,none⟩ = some (.slice none 0 0) := ((Below.refl wr.heap.size wr).alloc (Nat.le_refl _) (.cells #[.int .i64 t0,.int .i64 t1,.int .i64 t2,.int .u64 (t3 : Nat),.int .u64 (t4 : Nat),.slice p5 n5 c5,.slice p6 n6 c6,.slice p7 n7 c7,.bool t8] 39)).cell (p := ⟨w.heap.size,7,none⟩) hgr |>.trans (HI.out.1.cellAt 7 (by decide))
   have f7 : (wr.alloc (.cells #[.int .i64 t0,.int .i64 t1,.int .i64 t2,.int .u64 (t3 : Nat),.int .u64 (t4 : Nat),.slice p5 n5 c5,.slice p6 n6 c6,.slice p7 n7 c7,.bool t8] 39)).frozen? ⟨w.heap.size,7,none⟩ = false := ((Below.refl wr.heap.size wr).alloc (Nat.le_refl _) (.cells #[.int .i64 t0,.int .i64 t1,.int .i64 t2,.int .u64 (t3 : Nat),.int .u64 (t4 : Nat),.slice p5 n5 c5,.slice p6 n6 c6,.slice p7 n7 c7,.bool t8] 39)).frozen (p := ⟨w.heap.size,7,none⟩) hgr |>.trans (HI.out.1.frozenAt 7)
   have z8 : (wr.alloc (.cells #[.int .i64 t0,.int .i64 t1,.int .i64 t2,.int .u64 (t3 : Nat),.int .u64 (t4 : Nat),.slice p5 n5 c5,.slice p6 n6 c6,.slice p7 n7 c7,.bool t8] 39)).cell? ⟨w.heap.size,8,none⟩ = some (.bool false) := ((Below.refl wr.heap.size wr).alloc (Nat.le_refl _) (.cells #[.int .i64 t0,.int .i64 t1,.int .i64 t2,.int .u64 (t3 : Nat),.int .u64 (t4 : Nat),.slice p5 n5 c5,.slice p6 n6 c6,.slice p7 n7 c7,.bool t8] 39)).cell (p := ⟨w.heap.size,8,none⟩) hgr |>.trans (HI.out.1.cellAt 8 (by decide))
   have f8 : (wr.alloc (.cells #[.int .i64 t0,.int .i64 t1,.int .i64 t2,.int .u64 (t3 : Nat),.int .u64 (t4 : Nat),.slice p5 n5 c5,.slice p6 n6 c6,.slice p7 n7 c7,.bool t8] 39)).frozen? ⟨w.heap.size,8,none⟩ = false := ((Below.refl wr.heap.size wr).alloc (Nat.le_refl _) (.cells #[.int .i64 t0,.int .i64 t1,.int .i64 t2,.int .u64 (t3 : Nat),.int .u64 (t4 : Nat),.slice p5 n5 c5,.slice p6 n6 c6,.slice p7 n7 c7,.bool t8] 39)).frozen (p := ⟨w.heap.size,8,none⟩) hgr |>.trans (HI.out.1.frozenAt 8)
   have hgW : w.heap.size < (wr.alloc (.cells #[.int .i64 t0,.int .i64 t1,.int .i64 t2,.int .u64 (t3 : Nat),.int .u64 (t4 : Nat),.slice p5 n5 c5,.slice p6 n6 c6,.slice p7 n7 c7,.bool t8] 39)).heap.size := by rw [size_al]; omega
   have HZ : Hid ((wr.alloc (.cells #[.int .i64 t0,.int .i64 t1,.int .i64 t2,.int .u64 (t3 : Nat),.int .u64 (t4 : Nat),.slice p5 n5 c5,.slice p6 n6 c6,.slice p7 n7 c7,.bool t8] 39)).cell? ⟨w.heap.size,0,none⟩ = some (.int .i64 0) ∧ (wr.alloc (.cells #[.int .i64 t0,.int .i64 t1,.int .i64 t2,.int .u64 (t3 : Nat),.int .u64 (t4 : Nat),.slice p5 n5 c5,.slice p6 n6 c6,.slice p7 n7 c7,.bool t8] 39)).cell? ⟨w.heap.size,1,none⟩ = some (.int .i64 0) ∧ (wr.alloc (.cells #[.int .i64 t0,.int .i64 t1,.int .i64 t2,.int .u64 (t3 : Nat),.int .u64 (t4 : Nat),.slice p5 n5 c5,.slice p6 n6 c6,.slice p7 n7 c7,.bool t8] 39)).cell? ⟨w.heap.size,2,none⟩ = some (.int .i64 0) ∧ (wr.alloc (.cells #[.int .i64 t0,.int .i64 t1,.int .i64 t2,.int .u64 (t3 : Nat),.int .u64 (t4 : Nat),.slice p5 n5 c5,.slice p6 n6 c6,.slice p7 n7 c7,.bool t8] 39)).cell? ⟨w.heap.size,3,none⟩ = some (.int .u64 0) ∧ (wr.alloc (.cells #[.int .i64 t0,.int .i64 t1,.int .i64 t2,.int .u64 (t3 : Nat),.int .u64 (t4 : Nat),.slice p5 n5 c5,.slice p6 n6 c6,.slice p7 n7 c7,.bool t8] 39)).cell? ⟨w.heap.size,4,none⟩ = some (.int .u64 0) ∧ (wr.alloc (.cells #[.int .i64 t0,.int .i64 t1,.int .i64 t2,.int .u64 (t3 : Nat),.int .u64 (t4 : Nat),.slice p5 n5 c5,.slice p6 n6 c6,.slice p7 n7 c7,.bool t8] 39)).cell? ⟨w.heap.size,5,none⟩ = some (.slice none 0 0) ∧ (wr.alloc (.cells #[.int .i64 t0,.int .i64 t1,.int .i64 t2,.int .u64 (t3 : Nat),.int .u64 (t4 : Nat),.slice p5 n5 c5,.slice p6 n6 c6,.slice p7 n7 c7,.bool t8] 39)).cell? ⟨w.heap.size,6,none⟩ = some (.slice none 0 0) ∧ (wr.alloc (.cells #[.int .i64 t0,.int .i64 t1,.int .i64 t2,.int .u64 (t3 : Nat),.int .u64 (t4 : Nat),.slice p5 n5 c5,.slice p6 n6 c6,.slice p7 n7 c7,.bool t8] 39)).cell? ⟨w.heap.size,7,none⟩ = some (.slice none 0 0) ∧ (wr.alloc (.cells #[.int .i64 t0,.int .i64 t1,.int .i64 t2,.int .u64 (t3 : Nat),.int .u64 (t4 : Nat),.slice p5 n5 c5,.slice p6 n6 c6,.slice p7 n7 c7,.bool t8] 39)).cell? ⟨w.heap.size,8,none⟩ = some (.bool false) ∧ (wr.alloc (.cells #[.int .i64 t0,.int .i64 t1,.int .i64 t2,.int .u64 (t3 : Nat),.int .u64 (t4 : Nat),.slice p5 n5 c5,.slice p6 n6 c6,.slice p7 n7 c7,.bool t8] 39)).frozen? ⟨w.heap.size,0,none⟩ = false ∧ (wr.alloc (.cells #[.int .i64 t0,.int .i64 t1,.int .i64 t2,.int .u64 (t3 : Nat),.int .u64 (t4 : Nat),.slice p5 n5 c5,.slice p6 n6 c6,.slice p7 n7 c7,.bool t8] 39)).frozen? ⟨w.heap.size,1,none⟩ = false ∧ (wr.alloc (.cells #[.int .i64 t0,.int .i64 t1,.int .i64 t2,.int .u64 (t3 : Nat),.int .u64 (t4 : Nat),.slice p5 n5 c5,.slice p6 n6 c6,.slice p7 n7 c7,.bool t8] 39)).frozen? ⟨w.heap.size,2,none⟩ = false ∧ (wr.alloc (.cells #[.int .i64 t0,.int .i64 t1,.int .i64 t2,.int .u64 (t3 : Nat),.int .u64 (t4 : Nat),.slice p5 n5 c5,.slice p6 n6 c6,.slice p7 n7 c7,.bool t8] 39)).frozen? ⟨w.heap.size,3,none⟩ = false ∧ (wr.alloc (.cells #[.int .i64 t0,.int .i64 t1,.int .i64 t2,.int .u64 (t3 : Nat),.int .u64 (t4 : Nat),.slice p5 n5 c5,.slice p6 n6 c6,.slice p7 n7 c7,.bool t8] 39)).frozen? ⟨w.heap.size,4,none⟩ = false ∧ (wr.alloc (.cells #[.int .i64 t0,.int .i64 t1,.int .i64 t2,.int .u64 (t3 : Nat),.int .u64 (t4 : Nat),.slice p5 n5 c5,.slice p6 n6 c6,.slice p7 n7 c7,.bool t8] 39)).frozen? ⟨w.heap.size,5,none⟩ = false ∧ (wr.alloc (.cells #[.int .i64 t0,.int .i64 t1,.int .i64 t2,.int .u64 (t3 : Nat),.int .u64 (t4 : Nat),.slice p5 n5 c5,.slice p6 n6 c6,.slice p7 n7 c7,.bool t8] 39)).frozen? ⟨w.heap.size,6,none⟩ = false ∧ (wr.alloc (.cells #[.int .i64 t0,.int .i64 t1,.int .i64 t2,.int .u64 (t3 : Nat),.int .u64 (t4 : Nat),.slice p5 n5 c5,.slice p6 n6 c6,.slice p7 n7 c7,.bool t8] 39)).frozen? ⟨w.heap.size,7,none⟩ = false ∧ (wr.alloc (.cells #[.int .i64 t0,.int .i64 t1,.int .i64 t2,.int .u64 (t3 : Nat),.int .u64 (t4 : Nat),.slice p5 n5 c5,.slice p6 n6 c6,.slice p7 n7 c7,.bool t8] 39)).frozen? ⟨w.heap.size,8,none⟩ = false) := ⟨z0,z1,z2,z3,z4,z5,z6,z7,z8,f0,f1,f2,f3,f4,f5,f6,f7,f8⟩
   clear z0 f0 z1 f1 z2 f2 z3 f3 z4 f4 z5 f5 z6 f6 z7 f7 z8 f8
   have HGW := hid hgW
   go_wp2_with (go_at_fn k; (with_reducible refine HPW.out.mono ?_); rintro e w3 ⟨q5,q6,q7,rfl,hx3,hb3⟩; obtain ⟨q5a,q5b,q5c⟩ := q5; obtain ⟨q6a,q6b,q6c⟩ := q6; obtain ⟨q7a,q7b,q7c⟩ := q7; have a0 := (hb3.cell (p := ⟨w.heap.size,0,none⟩) HGW.out).trans HZ.out.1; have a1 := (hb3.cell (p := ⟨w.heap.size,1,none⟩) HGW.out).trans HZ.out.2.1; have a2 := (hb3.cell (p := ⟨w.heap.size,2,none⟩) HGW.out).trans HZ.out.2.2.1; have a3 := (hb3.cell (p := ⟨w.heap.size,3,none⟩) HGW.out).trans HZ.out.2.2.2.1; have a4 := (hb3.cell (p := ⟨w.heap.size,4,none⟩) HGW.out).trans HZ.out.2.2.2.2.1; have a5 := (hb3.cell (p := ⟨w.heap.size,5,none⟩) HGW.out).trans HZ.out.2.2.2.2.2.1; have a6 := (hb3.cell (p := ⟨w.heap.size,6,none⟩) HGW.out).trans HZ.out.2.2.2.2.2.2.1; have a7 := (hb3.cell (p := ⟨w.heap.size,7,none⟩) HGW.out).trans HZ.out.2.2.2.2.2.2.2.1; have a8 := (hb3.cell (p := ⟨w.heap.size,8,none⟩) HGW.out).trans HZ.out.2.2.2.2.2.2.2.2.1; have b0 := (hb3.frozen (p := ⟨w.heap.size,0,none⟩) HGW.out).trans HZ.out.2.2.2.2.2.2.2.2.2.1; have b1 := (hb3.frozen (p := ⟨w.heap.size,1,none⟩) HGW.out).trans HZ.out.2.2.2.2.2.2.2.2.2.2.1; have b2 := (hb3.frozen (p := ⟨w.heap.size,2,none⟩) HGW.out).trans HZ.out.2.2.2.2.2.2.2.2.2.2.2.1; have b3 := (hb3.frozen (p := ⟨w.heap.size,3,none⟩) HGW.out).trans HZ.out.2.2.2.2.2.2.2.2.2.2.2.2.1; have b4 := (hb3.frozen (p := ⟨w.heap.size,4,none⟩) HGW.out).trans HZ.out.2.2.2.2.2.2.2.2.2.2.2.2.2.1; have b5 := (hb3.frozen (p := ⟨w.heap.size,5,none⟩) HGW.out).trans HZ.out.2.2.2.2.2.2.2.2.2.2.2.2.2.2.1; have b6 := (hb3.frozen (p := ⟨w.heap.size,6,none⟩) HGW.out).trans HZ.out.2.2.2.2.2.2.2.2.2.2.2.2.2.2.2.1; have b7 := (hb3.frozen (p := ⟨w.heap.size,7,none⟩) HGW.out).trans HZ.out.2.2.2.2.2.2.2.2.2.2.2.2.2.2.2.2.1; have b8 := (hb3.frozen (p := ⟨w.heap.size,8,none⟩) HGW.out).trans HZ.out.2.2.2.2.2.2.2.2.2.2.2.2.2.2.2.2.2; have HX3 := hid hx3; have HK3 := hid (fun (kk : Nat) (hk : kk < wr.heap.size) => show w3.heap[kk]? = wr.heap[kk]? from (hb3.block kk (by rw [size_al]; omega)).trans (Below.heap_alloc _ _ _ hk)); have HB3 := hid (HBX.out.trans (hb3.mono HBX.out.size)); have HS3 := hid (Nat.lt_of_lt_of_le HGW.out hb3.size); clear hx3 hb3)
   go_roundw
   case rel =>
    have hca : ∃ cur,w3.heap[w.heap.size]? = some (.cells cur 39 (0,0)) ∧ cur.size = 9 := by
     obtain ⟨gq,capq,curq,e1,_,e3,_,_,e6,_⟩ := (HI.out.1.2.resolve_left (by rintro ⟨h,_⟩; cases h))
     simp only [Value.slice.injEq,Option.some.injEq,Addr.mk.injEq] at e1
     obtain ⟨⟨rfl,-,-⟩,-,rfl⟩ := e1
     exact ⟨curq,by rw [HK3.out _ hgr,e3],by rw [e6]⟩
    obtain ⟨cur,hc0,hsz⟩ := hca
    have hcl := cells_9 w3 w.heap.size cur 39 (.int .i64 t0) (.int .i64 t1) (.int .i64 t2) (.int .u64 (t3 : Nat)) (.int .u64 (t4 : Nat)) (.slice q5a q5b q5c) (.slice q6a q6b q6c) (.slice q7a q7b q7c) (.bool t8) hc0 hsz
    exact .inr ⟨rfl,⟨(q5a,q5b,q5c),(q6a,q6b,q6c),(q7a,q7b,q7c),by simp only [World.setCell,Array.size_modify]; exact HS3.out,hcl,HM.out _ _ (q5a,q5b,q5c) (q6a,q6b,q6c) (q7a,q7b,q7c) _ (Nat.le_of_lt HGW.out) (HSS.out _ (q5a,q5b,q5c) (q6a,q6b,q6c) (q7a,q7b,q7c) _ w.heap.size 8 _ HGW.out (HSS.out _ (q5a,q5b,q5c) (q6a,q6b,q6c) (q7a,q7b,q7c) _ w.heap.size 7 _ HGW.out (HSS.out _ (q5a,q5b,q5c) (q6a,q6b,q6c) (q7a,q7b,q7c) _ w.heap.size 6 _ HGW.out (HSS.out _ (q5a,q5b,q5c) (q6a,q6b,q6c) (q7a,q7b,q7c) _ w.heap.size 5 _ HGW.out (HSS.out _ (q5a,q5b,q5c) (q6a,q6b,q6c) (q7a,q7b,q7c) _ w.heap.size 4 _ HGW.out (HSS.out _ (q5a,q5b,q5c) (q6a,q6b,q6c) (q7a,q7b,q7c) _ w.heap.size 3 _ HGW.out (HSS.out _ (q5a,q5b,q5c) (q6a,q6b,q6c) (q7a,q7b,q7c) _ w.heap.size 2 _ HGW.out (HSS.out _ (q5a,q5b,q5c) (q6a,q6b,q6c) (q7a,q7b,q7c) _ w.heap.size 1 _ HGW.out (HSS.out _ (q5a,q5b,q5c) (q6a,q6b,q6c) (q7a,q7b,q7c) _ w.heap.size 0 _ HGW.out HX3.out))))))))),(((((((((HB3.out.setCell (p := ⟨w.heap.size,0,none⟩) (Nat.le_refl _) (.int .i64 t0)).setCell (p := ⟨w.heap.size,1,none⟩) (Nat.le_refl _) (.int .i64 t1)).setCell (p := ⟨w.heap.size,2,none⟩) (Nat.le_refl _) (.int .i64 t2)).setCell (p := ⟨w.heap.size,3,none⟩) (Nat.le_refl _) (.int .u64 (t3 : Nat))).setCell (p := ⟨w.heap.size,4,none⟩) (Nat.le_refl _) (.int .u64 (t4 : Nat))).setCell (p := ⟨w.heap.size,5,none⟩) (Nat.le_refl _) (.slice q5a q5b q5c)).setCell (p := ⟨w.heap.size,6,none⟩) (Nat.le_refl _) (.slice q6a q6b q6c)).setCell (p := ⟨w.heap.size,7,none⟩) (Nat.le_refl _) (.slice q7a q7b q7c)).setCell (p := ⟨w.heap.size,8,none⟩) (Nat.le_refl _) (.bool t8))⟩⟩
   case measure => simp [intOf]
  ·obtain ⟨q5,q6,q7,h1,h2,h3,h4⟩ := HI.out
   have HE := hid (show w.heap.size < wr.heap.size ∧ _ ∧ _ ∧ _ from ⟨h1,h2,h3,h4⟩)
   clear h1 h2 h3 h4 HI
   go_wp2
   go_ret
   exact ⟨w.heap.size,q5,q6,q7,rfl,Nat.le_refl _,HE.out.1,HE.out.2.1,HE.out.2.2.1,HE.out.2.2.2⟩
end Go.Proofs.YtjgeedgphcjhoaaGreat
namespace Go.Proofs.YtjgeedgphcjhoaaGreat
open Go.RowKit
theorem itself_int (x : Int) (w : World) : Calls Tryz.prog 158 #[.int .i64 x] w fun e w' => e = .returned (.int .i64 x) ∧ w = w' := by
 go_enter Tryz.func158,Tryz.ntmps158
 go_wp2
 go_ret
 exact ⟨rfl,rfl⟩
theorem code_nil (w : World) : Calls Tryz.prog 159 #[.slice none 0 0] w fun e w' => e = .returned (.slice none 0 0) ∧ w = w' := by
 have H := fun W => hid (cop_nil_130 223 W)
 go_enter Tryz.func159,Tryz.ntmps159
 go_wp2_with (go_at_call 222; (with_reducible refine (H _).out.mono ?_); rintro e w1 ⟨rfl,rfl⟩)
 go_ret
 exact ⟨rfl,rfl⟩
theorem setCell_size (w : World) (a : Addr) (v : Value) : (w.setCell a v).heap.size = w.heap.size := by simp [World.setCell]
set_option maxHeartbeats 8000000 in
theorem copI (X : Nat → (Option Addr × Nat × Nat) → World → Prop) (hXm : ∀ s s' q W,s' ≤ s → X s q W → X s' q W) (hXs : ∀ s q W r j v,r < s → X s q W → X s q (W.setCell ⟨r,j,none⟩ v)) (op : Int) (a : Int) (b : Int) (nn : Nat) (hh : Nat) (p : Option Addr) (n c : Nat) (ot : Bool) (w : World)
  (hP : ∀ W,Below w.heap.size w W → Calls Tryz.prog 159 #[.slice p n c] W fun e w' => ∃ q,e = .returned (.slice q.1 q.2.1 q.2.2) ∧ X W.heap.size q w' ∧ Below W.heap.size W w') :
  Calls Tryz.prog 223 #[.agg #[.int .i64 op,.int .i64 a,.int .i64 b,.int .u64 (nn : Nat),.int .u64 (hh : Nat),.slice none 0 0,.slice p n c,.slice none 0 0,.bool ot]] w fun e w' => ∃ q,e = .returned (.agg #[.int .i64 op,.int .i64 a,.int .i64 b,.int .u64 (nn : Nat),.int .u64 (hh : Nat),.slice none 0 0,.slice q.1 q.2.1 q.2.2,.slice none 0 0,.bool ot]) ∧ X w.heap.size q w' ∧ Below w.heap.size w w' := by
 have HM := hid hXm
 have HSS := hid hXs
 have HNI := fun W => hid (cop_nil_109 158 W)
 have HNC := fun W => hid (code_nil W)
 have HB0 := hid (((Below.refl w.heap.size w).alloc (Nat.le_refl _) (.cells #[.int .i64 op,.int .i64 a,.int .i64 b,.int .u64 (nn : Nat),.int .u64 (hh : Nat),.slice none 0 0,.slice p n c,.slice none 0 0,.bool ot] 39)).alloc (by rw [size_al]; omega) (.cells #[.int .i64 0,.int .i64 0,.int .i64 0,.int .u64 0,.int .u64 0,.slice none 0 0,.slice none 0 0,.slice none 0 0,.bool false] 39))
 have HX0 := hid (CA.alloc (CA.new w #[.int .i64 op,.int .i64 a,.int .i64 b,.int .u64 (nn : Nat),.int .u64 (hh : Nat),.slice none 0 0,.slice p n c,.slice none 0 0,.bool ot] 39) (.cells #[.int .i64 0,.int .i64 0,.int .i64 0,.int .u64 0,.int .u64 0,.slice none 0 0,.slice none 0 0,.slice none 0 0,.bool false] 39))
 have HZ0 := hid (CA.new (w.alloc (.cells #[.int .i64 op,.int .i64 a,.int .i64 b,.int .u64 (nn : Nat),.int .u64 (hh : Nat),.slice none 0 0,.slice p n c,.slice none 0 0,.bool ot] 39)) #[.int .i64 0,.int .i64 0,.int .i64 0,.int .u64 0,.int .u64 0,.slice none 0 0,.slice none 0 0,.slice none 0 0,.bool false] 39)
 rw [size_al] at HZ0
 have HPW := hP ((w.alloc (.cells #[.int .i64 op,.int .i64 a,.int .i64 b,.int .u64 (nn : Nat),.int .u64 (hh : Nat),.slice none 0 0,.slice p n c,.slice none 0 0,.bool ot] 39)).alloc (.cells #[.int .i64 0,.int .i64 0,.int .i64 0,.int .u64 0,.int .u64 0,.slice none 0 0,.slice none 0 0,.slice none 0 0,.bool false] 39)) HB0.out
 have hsz : ((w.alloc (.cells #[.int .i64 op,.int .i64 a,.int .i64 b,.int .u64 (nn : Nat),.int .u64 (hh : Nat),.slice none 0 0,.slice p n c,.slice none 0 0,.bool ot] 39)).alloc (.cells #[.int .i64 0,.int .i64 0,.int .i64 0,.int .u64 0,.int .u64 0,.slice none 0 0,.slice none 0 0,.slice none 0 0,.bool false] 39)).heap.size = w.heap.size + 2 := by rw [size_al,size_al]
 rw [hsz] at HPW
 have HPX := hid HPW
 have HSZ := hid hsz
 clear hP HPW hXm hXs hsz
 go_enter Tryz.func223,Tryz.ntmps223
 go_upto_region 3 with (first
  | (go_at_call 159; (with_reducible refine HPX.out.mono ?_); rintro e w2 ⟨⟨qa,qb,qc⟩,rfl,hx2,hb2⟩; have HX2 := hid (HX0.out.below hb2 (by rw [← HSZ.out]; exact HX0.out.lt)); have HZ2 := hid (HZ0.out.below hb2 (by omega)); have HB2 := hid (HB0.out.trans (hb2.mono (by omega))); have HXX := hid hx2; obtain ⟨y0,y1,y2,y3,y4,y5,y6,y7,y8⟩ := ca9 HX2.out; have f6 := HX2.out.free 6; clear hx2 hb2)
  | (go_at_call 157; (with_reducible refine (HNI _).out.mono ?_); rintro e w9 ⟨rfl,rfl⟩)
  | (go_at_call 159; (with_reducible refine (HNC _).out.mono ?_); rintro e w9 ⟨rfl,rfl⟩))
 have HX3 := hid (HX2.out.set (k := 6) (.slice qa qb qc))
 have HZ3 : Hid (CA (w.heap.size + 1) #[.int .i64 0,.int .i64 0,.int .i64 0,.int .u64 0,.int .u64 0,.slice none 0 0,.slice none 0 0,.slice none 0 0,.bool false] 39 (w2.setCell ⟨w.heap.size,6,none⟩ (.slice qa qb qc))) := by
  have := HZ2.out
  unfold CA at this ⊢
  rw [World.setCell,Array.getElem?_modify,if_neg (by show ¬ w.heap.size = w.heap.size + 1; omega)]
  exact this
 have HB3 := hid (HB2.out.setCell (p := ⟨w.heap.size,6,none⟩) (Nat.le_refl _) (.slice qa qb qc))
 have HXY := hid (HSS.out (w.heap.size + 2) (qa,qb,qc) _ w.heap.size 6 (.slice qa qb qc) (by omega) HXX.out)
 clear y0 y1 y2 y3 y4 y5 y6 y7 y8 f6
 generalize w2.setCell ⟨w.heap.size,6,none⟩ (.slice qa qb qc) = W3 at *
 obtain ⟨x0,x1,x2,x3,x4,x5,x6,x7,x8⟩ := ca9 HX3.out
 have fx := HX3.out.free 7
 go_upto_region 4 with (first
  | (go_at_call 157; (with_reducible refine (HNI _).out.mono ?_); rintro e w9 ⟨rfl,rfl⟩)
  | (go_at_call 159; (with_reducible refine (HNC _).out.mono ?_); rintro e w9 ⟨rfl,rfl⟩))
 have HX4 := hid (HX3.out.set (k := 7) (.slice none 0 0))
 have HZ4 : Hid (CA (w.heap.size + 1) #[.int .i64 0,.int .i64 0,.int .i64 0,.int .u64 0,.int .u64 0,.slice none 0 0,.slice none 0 0,.slice none 0 0,.bool false] 39 (W3.setCell ⟨w.heap.size,7,none⟩ (.slice none 0 0))) := by
  have := HZ3.out
  unfold CA at this ⊢
  rw [World.setCell,Array.getElem?_modify,if_neg (by show ¬ w.heap.size = w.heap.size + 1; omega)]
  exact this
 have HB4 := hid (HB3.out.setCell (p := ⟨w.heap.size,7,none⟩) (Nat.le_refl _) (.slice none 0 0))
 have HXZ := hid (HSS.out (w.heap.size + 2) (qa,qb,qc) _ w.heap.size 7 (.slice none 0 0) (by omega) HXY.out)
 clear x0 x1 x2 x3 x4 x5 x6 x7 x8 fx
 generalize W3.setCell ⟨w.heap.size,7,none⟩ (.slice none 0 0) = W4 at *
 obtain ⟨x0,x1,x2,x3,x4,x5,x6,x7,x8⟩ := ca9 HX4.out
 have z0 := HZ4.out.at (k := 0) (v := .int .i64 0) rfl
 have f0 := HZ4.out.free 0
 have z1 := HZ4.out.at (k := 1) (v := .int .i64 0) rfl
 have f1 := HZ4.out.free 1
 have z2 := HZ4.out.at (k := 2) (v := .int .i64 0) rfl
 have f2 := HZ4.out.free 2
 have z3 := HZ4.out.at (k := 3) (v := .int .u64 0) rfl
 have f3 := HZ4.out.free 3
 have z4 := HZ4.out.at (k := 4) (v := .int .u64 0) rfl
 have f4 := HZ4.out.free 4
 have z5 := HZ4.out.at (k := 5) (v := .slice none 0 0) rfl
 have f5 := HZ4.out.free 5
 have z6 := HZ4.out.at (k := 6) (v := .slice none 0 0) rfl
 have f6 := HZ4.out.free 6
 have z7 := HZ4.out.at (k := 7) (v := .slice none 0 0) rfl
 have f7 := HZ4.out.free 7
 have z8 := HZ4.out.at (k := 8) (v := .bool false) rfl
 have f8 := HZ4.out.free 8
 go_wp2
 obtain ⟨r0,r1,r2,r3,r4,r5,r6,r7,r8⟩ := cells_9 W4 (w.heap.size + 1) #[.int .i64 0,.int .i64 0,.int .i64 0,.int .u64 0,.int .u64 0,.slice none 0 0,.slice none 0 0,.slice none 0 0,.bool false] 39 (.int .i64 op) (.int .i64 a) (.int .i64 b) (.int .u64 (nn : Nat)) (.int .u64 (hh : Nat)) (.slice none 0 0) (.slice qa qb qc) (.slice none 0 0) (.bool ot) HZ4.out rfl
 exact bodyPost_ret (v := .agg #[.int .i64 op,.int .i64 a,.int .i64 b,.int .u64 (nn : Nat),.int .u64 (hh : Nat),.slice none 0 0,.slice qa qb qc,.slice none 0 0,.bool ot]) (by simp [results,Tryz.results223,go_sem,r0,r1,r2,r3,r4,r5,r6,r7,r8]) rfl ⟨(qa,qb,qc),rfl,HM.out _ _ _ _ (by omega) (HSS.out (w.heap.size + 2) (qa,qb,qc) _ (w.heap.size + 1) 8 (.bool ot) (by omega) (HSS.out (w.heap.size + 2) (qa,qb,qc) _ (w.heap.size + 1) 7 (.slice none 0 0) (by omega) (HSS.out (w.heap.size + 2) (qa,qb,qc) _ (w.heap.size + 1) 6 (.slice qa qb qc) (by omega) (HSS.out (w.heap.size + 2) (qa,qb,qc) _ (w.heap.size + 1) 5 (.slice none 0 0) (by omega) (HSS.out (w.heap.size + 2) (qa,qb,qc) _ (w.heap.size + 1) 4 (.int .u64 (hh : Nat)) (by omega) (HSS.out (w.heap.size + 2) (qa,qb,qc) _ (w.heap.size + 1) 3 (.int .u64 (nn : Nat)) (by omega) (HSS.out (w.heap.size + 2) (qa,qb,qc) _ (w.heap.size + 1) 2 (.int .i64 b) (by omega) (HSS.out (w.heap.size + 2) (qa,qb,qc) _ (w.heap.size + 1) 1 (.int .i64 a) (by omega) (HSS.out (w.heap.size + 2) (qa,qb,qc) _ (w.heap.size + 1) 0 (.int .i64 op) (by omega) HXZ.out))))))))),(((((((((HB4.out.setCell (p := ⟨w.heap.size + 1,0,none⟩) (by simp) (.int .i64 op)).setCell (p := ⟨w.heap.size + 1,1,none⟩) (by simp) (.int .i64 a)).setCell (p := ⟨w.heap.size + 1,2,none⟩) (by simp) (.int .i64 b)).setCell (p := ⟨w.heap.size + 1,3,none⟩) (by simp) (.int .u64 (nn : Nat))).setCell (p := ⟨w.heap.size + 1,4,none⟩) (by simp) (.int .u64 (hh : Nat))).setCell (p := ⟨w.heap.size + 1,5,none⟩) (by simp) (.slice none 0 0)).setCell (p := ⟨w.heap.size + 1,6,none⟩) (by simp) (.slice qa qb qc)).setCell (p := ⟨w.heap.size + 1,7,none⟩) (by simp) (.slice none 0 0)).setCell (p := ⟨w.heap.size + 1,8,none⟩) (by simp) (.bool ot))⟩
set_option maxHeartbeats 8000000 in
theorem copF (X : Nat → (Option Addr × Nat × Nat) → World → Prop) (hXm : ∀ s s' q W,s' ≤ s → X s q W → X s' q W) (hXs : ∀ s q W r j v,r < s → X s q W → X s q (W.setCell ⟨r,j,none⟩ v)) (t : Int) (p : Option Addr) (n c : Nat) (w : World)
  (hP : ∀ W,Below w.heap.size w W → Calls Tryz.prog 159 #[.slice p n c] W fun e w' => ∃ q,e = .returned (.slice q.1 q.2.1 q.2.2) ∧ X W.heap.size q w' ∧ Below W.heap.size W w') :
  Calls Tryz.prog 65 #[.agg #[.int .i64 t,.slice none 0 0,.slice p n c]] w fun e w' => ∃ q,e = .returned (.agg #[.int .i64 t,.slice none 0 0,.slice q.1 q.2.1 q.2.2]) ∧ X w.heap.size q w' ∧ Below w.heap.size w w' := by
 have HM := hid hXm
 have HSS := hid hXs
 have HNI := fun W => hid (cop_nil_109 158 W)
 have HNC := fun W => hid (code_nil W)
 have HB0 := hid (((Below.refl w.heap.size w).alloc (Nat.le_refl _) (.cells #[.int .i64 t,.slice none 0 0,.slice p n c] 42)).alloc (by rw [size_al]; omega) (.cells #[.int .i64 0,.slice none 0 0,.slice none 0 0] 42))
 have HX0 := hid (CA.alloc (CA.new w #[.int .i64 t,.slice none 0 0,.slice p n c] 42) (.cells #[.int .i64 0,.slice none 0 0,.slice none 0 0] 42))
 have HZ0 := hid (CA.new (w.alloc (.cells #[.int .i64 t,.slice none 0 0,.slice p n c] 42)) #[.int .i64 0,.slice none 0 0,.slice none 0 0] 42)
 rw [size_al] at HZ0
 have HPW := hP ((w.alloc (.cells #[.int .i64 t,.slice none 0 0,.slice p n c] 42)).alloc (.cells #[.int .i64 0,.slice none 0 0,.slice none 0 0] 42)) HB0.out
 have hsz : ((w.alloc (.cells #[.int .i64 t,.slice none 0 0,.slice p n c] 42)).alloc (.cells #[.int .i64 0,.slice none 0 0,.slice none 0 0] 42)).heap.size = w.heap.size + 2 := by rw [size_al,size_al]
 rw [hsz] at HPW
 have HPX := hid HPW
 have HSZ := hid hsz
 clear hP HPW hXm hXs hsz
 go_enter Tryz.func65,Tryz.ntmps65
 go_upto_region 3 with (first
  | (go_at_call 159; (with_reducible refine HPX.out.mono ?_); rintro e w2 ⟨⟨qa,qb,qc⟩,rfl,hx2,hb2⟩; have HX2 := hid (HX0.out.below hb2 (by rw [← HSZ.out]; exact HX0.out.lt)); have HZ2 := hid (HZ0.out.below hb2 (by omega)); have HB2 := hid (HB0.out.trans (hb2.mono (by omega))); have HXX := hid hx2; have y0 := HX2.out.at (k := 0) (v := .int .i64 t) rfl; have y1 := HX2.out.at (k := 1) (v := .slice none 0 0) rfl; have y2 := HX2.out.at (k := 2) (v := .slice p n c) rfl; have f2 := HX2.out.free 2; clear hx2 hb2)
  | (go_at_call 157; (with_reducible refine (HNI _).out.mono ?_); rintro e w9 ⟨rfl,rfl⟩))
 have HX3 := hid (HX2.out.set (k := 2) (.slice qa qb qc))
 have HZ3 : Hid (CA (w.heap.size + 1) #[.int .i64 0,.slice none 0 0,.slice none 0 0] 42 (w2.setCell ⟨w.heap.size,2,none⟩ (.slice qa qb qc))) := by
  have := HZ2.out
  unfold CA at this ⊢
  rw [World.setCell,Array.getElem?_modify,if_neg (by show ¬ w.heap.size = w.heap.size + 1; omega)]
  exact this
 have HB3 := hid (HB2.out.setCell (p := ⟨w.heap.size,2,none⟩) (Nat.le_refl _) (.slice qa qb qc))
 have HXY := hid (HSS.out (w.heap.size + 2) (qa,qb,qc) _ w.heap.size 2 (.slice qa qb qc) (by omega) HXX.out)
 clear y0 y1 y2 f2
 generalize w2.setCell ⟨w.heap.size,2,none⟩ (.slice qa qb qc) = W3 at *
 have x0 := HX3.out.at (k := 0) (v := .int .i64 t) rfl
 have x1 := HX3.out.at (k := 1) (v := .slice none 0 0) rfl
 have x2 := HX3.out.at (k := 2) (v := .slice qa qb qc) rfl
 have z0 := HZ3.out.at (k := 0) (v := .int .i64 0) rfl
 have f0 := HZ3.out.free 0
 have z1 := HZ3.out.at (k := 1) (v := .slice none 0 0) rfl
 have f1 := HZ3.out.free 1
 have z2 := HZ3.out.at (k := 2) (v := .slice none 0 0) rfl
 have f2 := HZ3.out.free 2
 go_wp2
 obtain ⟨r0,r1,r2⟩ := cells_3 W3 (w.heap.size + 1) #[.int .i64 0,.slice none 0 0,.slice none 0 0] 42 (.int .i64 t) (.slice none 0 0) (.slice qa qb qc) HZ3.out rfl
 exact bodyPost_ret (v := .agg #[.int .i64 t,.slice none 0 0,.slice qa qb qc]) (by simp [results,Tryz.results65,go_sem,r0,r1,r2]) rfl ⟨(qa,qb,qc),rfl,HM.out _ _ _ _ (by omega) (HSS.out (w.heap.size + 2) (qa,qb,qc) _ (w.heap.size + 1) 2 (.slice qa qb qc) (by omega) (HSS.out (w.heap.size + 2) (qa,qb,qc) _ (w.heap.size + 1) 1 (.slice none 0 0) (by omega) (HSS.out (w.heap.size + 2) (qa,qb,qc) _ (w.heap.size + 1) 0 (.int .i64 t) (by omega) HXY.out))),(((HB3.out.setCell (p := ⟨w.heap.size + 1,0,none⟩) (by simp) (.int .i64 t)).setCell (p := ⟨w.heap.size + 1,1,none⟩) (by simp) (.slice none 0 0)).setCell (p := ⟨w.heap.size + 1,2,none⟩) (by simp) (.slice qa qb qc))⟩
set_option maxHeartbeats 8000000 in
theorem copT (X : Nat → (Option Addr × Nat × Nat) → World → Prop) (hXm : ∀ s s' q W,s' ≤ s → X s q W → X s' q W) (hXs : ∀ s q W r j v,r < s → X s q W → X s q (W.setCell ⟨r,j,none⟩ v)) (p : Option Addr) (n c : Nat) (w : World)
  (hP : ∀ W,Below w.heap.size w W → Calls Tryz.prog 157 #[.slice p n c,.func (.func 158) #[] #[]] W fun e w' => ∃ q,e = .returned (.slice q.1 q.2.1 q.2.2) ∧ X W.heap.size q w' ∧ Below W.heap.size W w') :
  Calls Tryz.prog 61 #[.agg #[.slice p n c,.slice none 0 0]] w fun e w' => ∃ q,e = .returned (.agg #[.slice q.1 q.2.1 q.2.2,.slice none 0 0]) ∧ X w.heap.size q w' ∧ Below w.heap.size w w' := by
 have HM := hid hXm
 have HSS := hid hXs
 have HNI := fun W => hid (cop_nil_109 158 W)
 have HNC := fun W => hid (code_nil W)
 have HB0 := hid (((Below.refl w.heap.size w).alloc (Nat.le_refl _) (.cells #[.slice p n c,.slice none 0 0] 67)).alloc (by rw [size_al]; omega) (.cells #[.slice none 0 0,.slice none 0 0] 67))
 have HX0 := hid (CA.alloc (CA.new w #[.slice p n c,.slice none 0 0] 67) (.cells #[.slice none 0 0,.slice none 0 0] 67))
 have HZ0 := hid (CA.new (w.alloc (.cells #[.slice p n c,.slice none 0 0] 67)) #[.slice none 0 0,.slice none 0 0] 67)
 rw [size_al] at HZ0
 have HPW := hP ((w.alloc (.cells #[.slice p n c,.slice none 0 0] 67)).alloc (.cells #[.slice none 0 0,.slice none 0 0] 67)) HB0.out
 have hsz : ((w.alloc (.cells #[.slice p n c,.slice none 0 0] 67)).alloc (.cells #[.slice none 0 0,.slice none 0 0] 67)).heap.size = w.heap.size + 2 := by rw [size_al,size_al]
 rw [hsz] at HPW
 have HPX := hid HPW
 have HSZ := hid hsz
 clear hP HPW hXm hXs hsz
 go_enter Tryz.func61,Tryz.ntmps61
 go_upto_region 2 with (first
  | (go_at_call 157; (with_reducible refine HPX.out.mono ?_); rintro e w2 ⟨⟨qa,qb,qc⟩,rfl,hx2,hb2⟩; have HX2 := hid (HX0.out.below hb2 (by rw [← HSZ.out]; exact HX0.out.lt)); have HZ2 := hid (HZ0.out.below hb2 (by omega)); have HB2 := hid (HB0.out.trans (hb2.mono (by omega))); have HXX := hid hx2; have y0 := HX2.out.at (k := 0) (v := .slice p n c) rfl; have y1 := HX2.out.at (k := 1) (v := .slice none 0 0) rfl; have f0 := HX2.out.free 0; clear hx2 hb2)
  | (go_at_call 157; (with_reducible refine (HNI _).out.mono ?_); rintro e w9 ⟨rfl,rfl⟩))
 have HX3 := hid (HX2.out.set (k := 0) (.slice qa qb qc))
 have HZ3 : Hid (CA (w.heap.size + 1) #[.slice none 0 0,.slice none 0 0] 67 (w2.setCell ⟨w.heap.size,0,none⟩ (.slice qa qb qc))) := by
  have := HZ2.out
  unfold CA at this ⊢
  rw [World.setCell,Array.getElem?_modify,if_neg (by show ¬ w.heap.size = w.heap.size + 1; omega)]
  exact this
 have HB3 := hid (HB2.out.setCell (p := ⟨w.heap.size,0,none⟩) (Nat.le_refl _) (.slice qa qb qc))
 have HXY := hid (HSS.out (w.heap.size + 2) (qa,qb,qc) _ w.heap.size 0 (.slice qa qb qc) (by omega) HXX.out)
 clear y0 y1 f0
 generalize w2.setCell ⟨w.heap.size,0,none⟩ (.slice qa qb qc) = W3 at *
 have x0 := HX3.out.at (k := 0) (v := .slice qa qb qc) rfl
 have x1 := HX3.out.at (k := 1) (v := .slice none 0 0) rfl
 have fx := HX3.out.free 1
 go_upto_region 3 with (first
  | (go_at_call 157; (with_reducible refine (HNI _).out.mono ?_); rintro e w9 ⟨rfl,rfl⟩))
 have HX4 := hid (HX3.out.set (k := 1) (.slice none 0 0))
 have HZ4 : Hid (CA (w.heap.size + 1) #[.slice none 0 0,.slice none 0 0] 67 (W3.setCell ⟨w.heap.size,1,none⟩ (.slice none 0 0))) := by
  have := HZ3.out
  unfold CA at this ⊢
  rw [World.setCell,Array.getElem?_modify,if_neg (by show ¬ w.heap.size = w.heap.size + 1; omega)]
  exact this
 have HB4 := hid (HB3.out.setCell (p := ⟨w.heap.size,1,none⟩) (Nat.le_refl _) (.slice none 0 0))
 have HXZ := hid (HSS.out (w.heap.size + 2) (qa,qb,qc) _ w.heap.size 1 (.slice none 0 0) (by omega) HXY.out)
 clear x0 x1 fx
 generalize W3.setCell ⟨w.heap.size,1,none⟩ (.slice none 0 0) = W4 at *
 have x0 := HX4.out.at (k := 0) (v := .slice qa qb qc) rfl
 have x1 := HX4.out.at (k := 1) (v := .slice none 0 0) rfl
 have z0 := HZ4.out.at (k := 0) (v := .slice none 0 0) rfl
 have f0 := HZ4.out.free 0
 have z1 := HZ4.out.at (k := 1) (v := .slice none 0 0) rfl
 have f1 := HZ4.out.free 1
 go_wp2
 obtain ⟨r0,r1⟩ := cells_2 W4 (w.heap.size + 1) #[.slice none 0 0,.slice none 0 0] 67 (.slice qa qb qc) (.slice none 0 0) HZ4.out rfl
 exact bodyPost_ret (v := .agg #[.slice qa qb qc,.slice none 0 0]) (by simp [results,Tryz.results61,go_sem,r0,r1]) rfl ⟨(qa,qb,qc),rfl,HM.out _ _ _ _ (by omega) (HSS.out (w.heap.size + 2) (qa,qb,qc) _ (w.heap.size + 1) 1 (.slice none 0 0) (by omega) (HSS.out (w.heap.size + 2) (qa,qb,qc) _ (w.heap.size + 1) 0 (.slice qa qb qc) (by omega) HXZ.out)),((HB4.out.setCell (p := ⟨w.heap.size + 1,0,none⟩) (by simp) (.slice qa qb qc)).setCell (p := ⟨w.heap.size + 1,1,none⟩) (by simp) (.slice none 0 0))⟩
end Go.Proofs.YtjgeedgphcjhoaaGreat
