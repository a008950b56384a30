/-
  Ins6, Instr, Code: merged, what the law does not reach left out (each text says what it holds where it lies in wip). No condition.
-/
import Derived.Test.YtjgeedgphcjhoaaGreatO06
import Derived.Test.YtjgeedgphcjhoaaGreatO07
import Derived.Test.YtjgeedgphcjhoaaGreatO08
import Derived.Test.YtjgeedgphcjhoaaGreatO09
import Derived.Test.YtjgeedgphcjhoaaGreatO10
set_option linter.unusedSimpArgs false
set_option linter.unusedVariables false
set_option maxRecDepth 100000
namespace Go.Proofs.YtjgeedgphcjhoaaGreat
open Go.RowKit
set_option maxHeartbeats 4000000 in
theorem ins_1 (op a b : Int) (n h : Nat) (nl : Nat) (pl pb pe : Option Addr) (cl nb cb ne ce : Nat) (ot : Bool) (w : World)
  (hk : ∀ W,Calls Tryz.prog 233 #[.int .i64 op] W fun e w' => e = .returned (.bool true) ∧ Below W.heap.size W w') (hi : ∀ W,Calls Tryz.prog 152 #[.int .i64 op] W fun e w' => e = .returned (.int .i64 1) ∧ Below W.heap.size W w') :
  Calls Tryz.prog 214 #[.agg #[.int .i64 op,.int .i64 a,.int .i64 b,.int .u64 (n : Nat),.int .u64 (h : Nat),.slice pl nl cl,.slice pb nb cb,.slice pe ne ce,.bool ot]] w fun e w' => e = .returned (.bool (blB op a b n h ot nl nb ne)) ∧ Below w.heap.size w w' := by
 have HK := fun W => hid (hk W)
 have HI := fun W => hid (hi W)
 have HU := fun W => hid (isBlock_says op a b n h pl pb pe nl cl nb cb ne ce ot W)
 generalize blB op a b n h ot nl nb ne = u at *
 have HBX := hid ((Below.refl w.heap.size w).alloc (Nat.le_refl _) (.cells #[.int .i64 op,.int .i64 a,.int .i64 b,.int .u64 (n : Nat),.int .u64 (h : Nat),.slice pl nl cl,.slice pb nb cb,.slice pe ne ce,.bool ot] 39))
 have HX := hid (CA.new w #[.int .i64 op,.int .i64 a,.int .i64 b,.int .u64 (n : Nat),.int .u64 (h : Nat),.slice pl nl cl,.slice pb nb cb,.slice pe ne ce,.bool ot] 39)
 clear hk hi
 go_enter Tryz.func214,Tryz.ntmps214
 go_wp2_with (first
  | (go_at_call 233; (with_reducible refine (HK _).out.mono ?_); rintro e w1 ⟨rfl,hb1⟩; have HB1 := hid (HBX.out.trans (hb1.mono HBX.out.size)); have HX1 := hid (HX.out.below hb1 HX.out.lt); have z0 := HX1.out.at (k := 0) (v := .int .i64 op) rfl; clear hb1)
  | (go_at_call 152; (with_reducible refine (HI _).out.mono ?_); rintro e w2 ⟨rfl,hb2⟩; have HB2 := hid (HB1.out.trans (hb2.mono HB1.out.size)); have HX2 := hid (HX1.out.below hb2 HX1.out.lt); have y0 := HX2.out.at (k := 0) (v := .int .i64 op) rfl; have y1 := HX2.out.at (k := 1) (v := .int .i64 a) rfl; have y2 := HX2.out.at (k := 2) (v := .int .i64 b) rfl; have y3 := HX2.out.at (k := 3) (v := .int .u64 (n : Nat)) rfl; have y4 := HX2.out.at (k := 4) (v := .int .u64 (h : Nat)) rfl; have y5 := HX2.out.at (k := 5) (v := .slice pl nl cl) rfl; have y6 := HX2.out.at (k := 6) (v := .slice pb nb cb) rfl; have y7 := HX2.out.at (k := 7) (v := .slice pe ne ce) rfl; have y8 := HX2.out.at (k := 8) (v := .bool ot) rfl; clear hb2)
  | (go_at_call 234; (with_reducible refine (HU _).out.mono ?_); rintro e w4 ⟨rfl,hb4⟩; have HB4 := hid (HB2.out.trans (hb4.mono HB2.out.size)); clear hb4))
 go_ret
 exact ⟨rfl,HB4.out⟩
set_option maxHeartbeats 4000000 in
theorem ins_26 (op a b : Int) (n h : Nat) (l : List Int) (nl : Nat) (hnl : nl = l.length) (pl pb pe : Option Addr) (cl nb cb ne ce : Nat) (ot : Bool) (B : Nat) (w : World) (hB : B ≤ w.heap.size) (hl : LI B w (.slice pl nl cl) l)
  (hk : ∀ W,Calls Tryz.prog 233 #[.int .i64 op] W fun e w' => e = .returned (.bool true) ∧ Below W.heap.size W w') (hi : ∀ W,Calls Tryz.prog 152 #[.int .i64 op] W fun e w' => e = .returned (.int .i64 26) ∧ Below W.heap.size W w') :
  Calls Tryz.prog 214 #[.agg #[.int .i64 op,.int .i64 a,.int .i64 b,.int .u64 (n : Nat),.int .u64 (h : Nat),.slice pl nl cl,.slice pb nb cb,.slice pe ne ce,.bool ot]] w fun e w' => e = .returned (.bool ((idxB a && idxB b && ((nl : Int) == 1) && byteB (l.headD 0)) && unB 0 0 n h ot 0 nb ne)) ∧ Below w.heap.size w w' := by
 have HK := fun W => hid (hk W)
 have HI := fun W => hid (hi W)
 have HU := fun W => hid (isUnused_says op 0 0 n h none pb pe 0 0 nb cb ne ce ot W)
 generalize unB 0 0 n h ot 0 nb ne = u at *
 have HBX := hid ((Below.refl w.heap.size w).alloc (Nat.le_refl _) (.cells #[.int .i64 op,.int .i64 a,.int .i64 b,.int .u64 (n : Nat),.int .u64 (h : Nat),.slice pl nl cl,.slice pb nb cb,.slice pe ne ce,.bool ot] 39))
 have HX := hid (CA.new w #[.int .i64 op,.int .i64 a,.int .i64 b,.int .u64 (n : Nat),.int .u64 (h : Nat),.slice pl nl cl,.slice pb nb cb,.slice pe ne ce,.bool ot] 39)
 have HIA := fun W => hid (isIndex_says a W)
 generalize idxB a = ia at *
 have HIB := fun W => hid (isIndex_says b W)
 generalize idxB b = ib at *
 by_cases h1 : nl = 1
 ·obtain ⟨x,rfl⟩ : ∃ x,l = [x] := List.length_eq_one_iff.1 (by omega)
  obtain ⟨p,c,e1,-,hx⟩ := hl
  obtain ⟨g,o,e2,hg,hxx⟩ := hx (by simp)
  simp only [Value.slice.injEq] at e1
  obtain ⟨rfl,-,-⟩ := e1
  subst e2
  have HC0 := hid (hxx 0 x rfl)
  rw [Nat.add_zero] at HC0
  have HG := hid (Nat.lt_of_lt_of_le hg hB)
  have HBY := fun W => hid (isByte_says x W)
  simp only [List.headD_cons]
  generalize byteB x = by' at *
  subst h1
  clear hk hi hxx hnl hx hg hB
  cases ia with
  | false =>
   go_enter Tryz.func214,Tryz.ntmps214
   go_upto_region 50 with (first
    | (go_at_call 233; (with_reducible refine (HK _).out.mono ?_); rintro e w1 ⟨rfl,hb1⟩; have HB1 := hid (HBX.out.trans (hb1.mono HBX.out.size)); have HX1 := hid (HX.out.below hb1 HX.out.lt); have z0 := HX1.out.at (k := 0) (v := .int .i64 op) rfl; clear hb1)
    | (go_at_call 152; (with_reducible refine (HI _).out.mono ?_); rintro e w2 ⟨rfl,hb2⟩; have HB2 := hid (HB1.out.trans (hb2.mono HB1.out.size)); have HX2 := hid (HX1.out.below hb2 HX1.out.lt); have y0 := HX2.out.at (k := 0) (v := .int .i64 op) rfl; have y1 := HX2.out.at (k := 1) (v := .int .i64 a) rfl; have y2 := HX2.out.at (k := 2) (v := .int .i64 b) rfl; have y3 := HX2.out.at (k := 3) (v := .int .u64 (n : Nat)) rfl; have y4 := HX2.out.at (k := 4) (v := .int .u64 (h : Nat)) rfl; have y5 := HX2.out.at (k := 5) (v := .slice (some ⟨g,o,none⟩) 1 cl) rfl; have y6 := HX2.out.at (k := 6) (v := .slice pb nb cb) rfl; have y7 := HX2.out.at (k := 7) (v := .slice pe ne ce) rfl; have y8 := HX2.out.at (k := 8) (v := .bool ot) rfl; have f1 := HX2.out.free 1; have f2 := HX2.out.free 2; have f5 := HX2.out.free 5; clear hb2)
    | (go_at_call 145; (with_reducible refine (HIA _).out.mono ?_); rintro e w3 ⟨rfl,rfl⟩)
    | (go_at_call 145; (with_reducible refine (HIB _).out.mono ?_); rintro e w3 ⟨rfl,rfl⟩))
   have HX3 := hid (((HX2.out.set (k := 1) (.int .i64 0)).set (k := 2) (.int .i64 0)).set (k := 5) (.slice none 0 0))
   have HB3 := hid (((HB2.out.setCell (p := ⟨w.heap.size,1,none⟩) (Nat.le_refl _) (.int .i64 0)).setCell (p := ⟨w.heap.size,2,none⟩) (Nat.le_refl _) (.int .i64 0)).setCell (p := ⟨w.heap.size,5,none⟩) (Nat.le_refl _) (.slice none 0 0))
   clear y0 y1 y2 y3 y4 y5 y6 y7 y8 f1 f2 f5
   generalize (((w2.setCell ⟨w.heap.size,1,none⟩ (.int .i64 0)).setCell ⟨w.heap.size,2,none⟩ (.int .i64 0)).setCell ⟨w.heap.size,5,none⟩ (.slice none 0 0)) = W3 at *
   go_wp2
   go_ret
   exact ⟨by simp,HB3.out⟩
  | true =>
   cases ib with
   | false =>
    go_enter Tryz.func214,Tryz.ntmps214
    go_upto_region 50 with (first
     | (go_at_call 233; (with_reducible refine (HK _).out.mono ?_); rintro e w1 ⟨rfl,hb1⟩; have HB1 := hid (HBX.out.trans (hb1.mono HBX.out.size)); have HX1 := hid (HX.out.below hb1 HX.out.lt); have z0 := HX1.out.at (k := 0) (v := .int .i64 op) rfl; clear hb1)
     | (go_at_call 152; (with_reducible refine (HI _).out.mono ?_); rintro e w2 ⟨rfl,hb2⟩; have HB2 := hid (HB1.out.trans (hb2.mono HB1.out.size)); have HX2 := hid (HX1.out.below hb2 HX1.out.lt); have y0 := HX2.out.at (k := 0) (v := .int .i64 op) rfl; have y1 := HX2.out.at (k := 1) (v := .int .i64 a) rfl; have y2 := HX2.out.at (k := 2) (v := .int .i64 b) rfl; have y3 := HX2.out.at (k := 3) (v := .int .u64 (n : Nat)) rfl; have y4 := HX2.out.at (k := 4) (v := .int .u64 (h : Nat)) rfl; have y5 := HX2.out.at (k := 5) (v := .slice (some ⟨g,o,none⟩) 1 cl) rfl; have y6 := HX2.out.at (k := 6) (v := .slice pb nb cb) rfl; have y7 := HX2.out.at (k := 7) (v := .slice pe ne ce) rfl; have y8 := HX2.out.at (k := 8) (v := .bool ot) rfl; have f1 := HX2.out.free 1; have f2 := HX2.out.free 2; have f5 := HX2.out.free 5; clear hb2)
     | (go_at_call 145; (with_reducible refine (HIA _).out.mono ?_); rintro e w3 ⟨rfl,rfl⟩)
     | (go_at_call 145; (with_reducible refine (HIB _).out.mono ?_); rintro e w3 ⟨rfl,rfl⟩))
    have HX3 := hid (((HX2.out.set (k := 1) (.int .i64 0)).set (k := 2) (.int .i64 0)).set (k := 5) (.slice none 0 0))
    have HB3 := hid (((HB2.out.setCell (p := ⟨w.heap.size,1,none⟩) (Nat.le_refl _) (.int .i64 0)).setCell (p := ⟨w.heap.size,2,none⟩) (Nat.le_refl _) (.int .i64 0)).setCell (p := ⟨w.heap.size,5,none⟩) (Nat.le_refl _) (.slice none 0 0))
    clear y0 y1 y2 y3 y4 y5 y6 y7 y8 f1 f2 f5
    generalize (((w2.setCell ⟨w.heap.size,1,none⟩ (.int .i64 0)).setCell ⟨w.heap.size,2,none⟩ (.int .i64 0)).setCell ⟨w.heap.size,5,none⟩ (.slice none 0 0)) = W3 at *
    go_wp2
    go_ret
    exact ⟨by simp,HB3.out⟩
   | true =>
    cases by' with
    | false =>
     go_enter Tryz.func214,Tryz.ntmps214
     go_upto_region 50 with (first
      | (go_at_call 233; (with_reducible refine (HK _).out.mono ?_); rintro e w1 ⟨rfl,hb1⟩; have HB1 := hid (HBX.out.trans (hb1.mono HBX.out.size)); have HX1 := hid (HX.out.below hb1 HX.out.lt); have z0 := HX1.out.at (k := 0) (v := .int .i64 op) rfl; clear hb1)
      | (go_at_call 152; (with_reducible refine (HI _).out.mono ?_); rintro e w2 ⟨rfl,hb2⟩; have HB2 := hid (HB1.out.trans (hb2.mono HB1.out.size)); have HX2 := hid (HX1.out.below hb2 HX1.out.lt); have y0 := HX2.out.at (k := 0) (v := .int .i64 op) rfl; have y1 := HX2.out.at (k := 1) (v := .int .i64 a) rfl; have y2 := HX2.out.at (k := 2) (v := .int .i64 b) rfl; have y3 := HX2.out.at (k := 3) (v := .int .u64 (n : Nat)) rfl; have y4 := HX2.out.at (k := 4) (v := .int .u64 (h : Nat)) rfl; have y5 := HX2.out.at (k := 5) (v := .slice (some ⟨g,o,none⟩) 1 cl) rfl; have y6 := HX2.out.at (k := 6) (v := .slice pb nb cb) rfl; have y7 := HX2.out.at (k := 7) (v := .slice pe ne ce) rfl; have y8 := HX2.out.at (k := 8) (v := .bool ot) rfl; have f1 := HX2.out.free 1; have f2 := HX2.out.free 2; have f5 := HX2.out.free 5; have x0 := (HB2.out.cell (p := ⟨g,o,none⟩) HG.out).trans HC0.out; clear hb2)
      | (go_at_call 145; (with_reducible refine (HIA _).out.mono ?_); rintro e w3 ⟨rfl,rfl⟩)
      | (go_at_call 145; (with_reducible refine (HIB _).out.mono ?_); rintro e w3 ⟨rfl,rfl⟩)
      | (go_at_call 235; (with_reducible refine (HBY _).out.mono ?_); rintro e w3 ⟨rfl,rfl⟩))
     have HX3 := hid (((HX2.out.set (k := 1) (.int .i64 0)).set (k := 2) (.int .i64 0)).set (k := 5) (.slice none 0 0))
     have HB3 := hid (((HB2.out.setCell (p := ⟨w.heap.size,1,none⟩) (Nat.le_refl _) (.int .i64 0)).setCell (p := ⟨w.heap.size,2,none⟩) (Nat.le_refl _) (.int .i64 0)).setCell (p := ⟨w.heap.size,5,none⟩) (Nat.le_refl _) (.slice none 0 0))
     clear y0 y1 y2 y3 y4 y5 y6 y7 y8 f1 f2 f5
     generalize (((w2.setCell ⟨w.heap.size,1,none⟩ (.int .i64 0)).setCell ⟨w.heap.size,2,none⟩ (.int .i64 0)).setCell ⟨w.heap.size,5,none⟩ (.slice none 0 0)) = W3 at *
     go_wp2
     go_ret
     exact ⟨by simp,HB3.out⟩
    | true =>
     go_enter Tryz.func214,Tryz.ntmps214
     go_upto_region 50 with (first
      | (go_at_call 233; (with_reducible refine (HK _).out.mono ?_); rintro e w1 ⟨rfl,hb1⟩; have HB1 := hid (HBX.out.trans (hb1.mono HBX.out.size)); have HX1 := hid (HX.out.below hb1 HX.out.lt); have z0 := HX1.out.at (k := 0) (v := .int .i64 op) rfl; clear hb1)
      | (go_at_call 152; (with_reducible refine (HI _).out.mono ?_); rintro e w2 ⟨rfl,hb2⟩; have HB2 := hid (HB1.out.trans (hb2.mono HB1.out.size)); have HX2 := hid (HX1.out.below hb2 HX1.out.lt); have y0 := HX2.out.at (k := 0) (v := .int .i64 op) rfl; have y1 := HX2.out.at (k := 1) (v := .int .i64 a) rfl; have y2 := HX2.out.at (k := 2) (v := .int .i64 b) rfl; have y3 := HX2.out.at (k := 3) (v := .int .u64 (n : Nat)) rfl; have y4 := HX2.out.at (k := 4) (v := .int .u64 (h : Nat)) rfl; have y5 := HX2.out.at (k := 5) (v := .slice (some ⟨g,o,none⟩) 1 cl) rfl; have y6 := HX2.out.at (k := 6) (v := .slice pb nb cb) rfl; have y7 := HX2.out.at (k := 7) (v := .slice pe ne ce) rfl; have y8 := HX2.out.at (k := 8) (v := .bool ot) rfl; have f1 := HX2.out.free 1; have f2 := HX2.out.free 2; have f5 := HX2.out.free 5; have x0 := (HB2.out.cell (p := ⟨g,o,none⟩) HG.out).trans HC0.out; clear hb2)
      | (go_at_call 145; (with_reducible refine (HIA _).out.mono ?_); rintro e w3 ⟨rfl,rfl⟩)
      | (go_at_call 145; (with_reducible refine (HIB _).out.mono ?_); rintro e w3 ⟨rfl,rfl⟩)
      | (go_at_call 235; (with_reducible refine (HBY _).out.mono ?_); rintro e w3 ⟨rfl,rfl⟩))
     have HX3 := hid (((HX2.out.set (k := 1) (.int .i64 0)).set (k := 2) (.int .i64 0)).set (k := 5) (.slice none 0 0))
     have HB3 := hid (((HB2.out.setCell (p := ⟨w.heap.size,1,none⟩) (Nat.le_refl _) (.int .i64 0)).setCell (p := ⟨w.heap.size,2,none⟩) (Nat.le_refl _) (.int .i64 0)).setCell (p := ⟨w.heap.size,5,none⟩) (Nat.le_refl _) (.slice none 0 0))
     clear y0 y1 y2 y3 y4 y5 y6 y7 y8 f1 f2 f5
     generalize (((w2.setCell ⟨w.heap.size,1,none⟩ (.int .i64 0)).setCell ⟨w.heap.size,2,none⟩ (.int .i64 0)).setCell ⟨w.heap.size,5,none⟩ (.slice none 0 0)) = W3 at *
     have x0' := HX3.out.at (k := 0) (v := .int .i64 op) rfl
     have x1' := HX3.out.at (k := 1) (v := .int .i64 0) rfl
     have x2' := HX3.out.at (k := 2) (v := .int .i64 0) rfl
     have x3' := HX3.out.at (k := 3) (v := .int .u64 (n : Nat)) rfl
     have x4' := HX3.out.at (k := 4) (v := .int .u64 (h : Nat)) rfl
     have x5' := HX3.out.at (k := 5) (v := .slice none 0 0) rfl
     have x6' := HX3.out.at (k := 6) (v := .slice pb nb cb) rfl
     have x7' := HX3.out.at (k := 7) (v := .slice pe ne ce) rfl
     have x8' := HX3.out.at (k := 8) (v := .bool ot) rfl
     go_wp2_with (go_at_call 236; (with_reducible refine (HU _).out.mono ?_); rintro e w4 ⟨rfl,hb4⟩)
     go_ret
     exact ⟨by simp,HB3.out.trans (hb4.mono HB3.out.size)⟩
 ·have d1 : ((nl : Int) == 1) = false := by simp; omega
  rw [d1]
  clear hk hi hl hnl
  cases ia with
  | false =>
   go_enter Tryz.func214,Tryz.ntmps214
   go_upto_region 50 with (first
    | (go_at_call 233; (with_reducible refine (HK _).out.mono ?_); rintro e w1 ⟨rfl,hb1⟩; have HB1 := hid (HBX.out.trans (hb1.mono HBX.out.size)); have HX1 := hid (HX.out.below hb1 HX.out.lt); have z0 := HX1.out.at (k := 0) (v := .int .i64 op) rfl; clear hb1)
    | (go_at_call 152; (with_reducible refine (HI _).out.mono ?_); rintro e w2 ⟨rfl,hb2⟩; have HB2 := hid (HB1.out.trans (hb2.mono HB1.out.size)); have HX2 := hid (HX1.out.below hb2 HX1.out.lt); have y0 := HX2.out.at (k := 0) (v := .int .i64 op) rfl; have y1 := HX2.out.at (k := 1) (v := .int .i64 a) rfl; have y2 := HX2.out.at (k := 2) (v := .int .i64 b) rfl; have y3 := HX2.out.at (k := 3) (v := .int .u64 (n : Nat)) rfl; have y4 := HX2.out.at (k := 4) (v := .int .u64 (h : Nat)) rfl; have y5 := HX2.out.at (k := 5) (v := .slice pl nl cl) rfl; have y6 := HX2.out.at (k := 6) (v := .slice pb nb cb) rfl; have y7 := HX2.out.at (k := 7) (v := .slice pe ne ce) rfl; have y8 := HX2.out.at (k := 8) (v := .bool ot) rfl; have f1 := HX2.out.free 1; have f2 := HX2.out.free 2; have f5 := HX2.out.free 5; clear hb2)
    | (go_at_call 145; (with_reducible refine (HIA _).out.mono ?_); rintro e w3 ⟨rfl,rfl⟩)
    | (go_at_call 145; (with_reducible refine (HIB _).out.mono ?_); rintro e w3 ⟨rfl,rfl⟩))
   have HX3 := hid (((HX2.out.set (k := 1) (.int .i64 0)).set (k := 2) (.int .i64 0)).set (k := 5) (.slice none 0 0))
   have HB3 := hid (((HB2.out.setCell (p := ⟨w.heap.size,1,none⟩) (Nat.le_refl _) (.int .i64 0)).setCell (p := ⟨w.heap.size,2,none⟩) (Nat.le_refl _) (.int .i64 0)).setCell (p := ⟨w.heap.size,5,none⟩) (Nat.le_refl _) (.slice none 0 0))
   clear y0 y1 y2 y3 y4 y5 y6 y7 y8 f1 f2 f5
   generalize (((w2.setCell ⟨w.heap.size,1,none⟩ (.int .i64 0)).setCell ⟨w.heap.size,2,none⟩ (.int .i64 0)).setCell ⟨w.heap.size,5,none⟩ (.slice none 0 0)) = W3 at *
   go_wp2
   go_ret
   exact ⟨by simp,HB3.out⟩
  | true =>
   cases ib with
   | false =>
    go_enter Tryz.func214,Tryz.ntmps214
    go_upto_region 50 with (first
     | (go_at_call 233; (with_reducible refine (HK _).out.mono ?_); rintro e w1 ⟨rfl,hb1⟩; have HB1 := hid (HBX.out.trans (hb1.mono HBX.out.size)); have HX1 := hid (HX.out.below hb1 HX.out.lt); have z0 := HX1.out.at (k := 0) (v := .int .i64 op) rfl; clear hb1)
     | (go_at_call 152; (with_reducible refine (HI _).out.mono ?_); rintro e w2 ⟨rfl,hb2⟩; have HB2 := hid (HB1.out.trans (hb2.mono HB1.out.size)); have HX2 := hid (HX1.out.below hb2 HX1.out.lt); have y0 := HX2.out.at (k := 0) (v := .int .i64 op) rfl; have y1 := HX2.out.at (k := 1) (v := .int .i64 a) rfl; have y2 := HX2.out.at (k := 2) (v := .int .i64 b) rfl; have y3 := HX2.out.at (k := 3) (v := .int .u64 (n : Nat)) rfl; have y4 := HX2.out.at (k := 4) (v := .int .u64 (h : Nat)) rfl; have y5 := HX2.out.at (k := 5) (v := .slice pl nl cl) rfl; have y6 := HX2.out.at (k := 6) (v := .slice pb nb cb) rfl; have y7 := HX2.out.at (k := 7) (v := .slice pe ne ce) rfl; have y8 := HX2.out.at (k := 8) (v := .bool ot) rfl; have f1 := HX2.out.free 1; have f2 := HX2.out.free 2; have f5 := HX2.out.free 5; clear hb2)
     | (go_at_call 145; (with_reducible refine (HIA _).out.mono ?_); rintro e w3 ⟨rfl,rfl⟩)
     | (go_at_call 145; (with_reducible refine (HIB _).out.mono ?_); rintro e w3 ⟨rfl,rfl⟩))
    have HX3 := hid (((HX2.out.set (k := 1) (.int .i64 0)).set (k := 2) (.int .i64 0)).set (k := 5) (.slice none 0 0))
    have HB3 := hid (((HB2.out.setCell (p := ⟨w.heap.size,1,none⟩) (Nat.le_refl _) (.int .i64 0)).setCell (p := ⟨w.heap.size,2,none⟩) (Nat.le_refl _) (.int .i64 0)).setCell (p := ⟨w.heap.size,5,none⟩) (Nat.le_refl _) (.slice none 0 0))
    clear y0 y1 y2 y3 y4 y5 y6 y7 y8 f1 f2 f5
    generalize (((w2.setCell ⟨w.heap.size,1,none⟩ (.int .i64 0)).setCell ⟨w.heap.size,2,none⟩ (.int .i64 0)).setCell ⟨w.heap.size,5,none⟩ (.slice none 0 0)) = W3 at *
    go_wp2
    go_ret
    exact ⟨by simp,HB3.out⟩
   | true =>
    go_enter Tryz.func214,Tryz.ntmps214
    go_upto_region 50 with (first
     | (go_at_call 233; (with_reducible refine (HK _).out.mono ?_); rintro e w1 ⟨rfl,hb1⟩; have HB1 := hid (HBX.out.trans (hb1.mono HBX.out.size)); have HX1 := hid (HX.out.below hb1 HX.out.lt); have z0 := HX1.out.at (k := 0) (v := .int .i64 op) rfl; clear hb1)
     | (go_at_call 152; (with_reducible refine (HI _).out.mono ?_); rintro e w2 ⟨rfl,hb2⟩; have HB2 := hid (HB1.out.trans (hb2.mono HB1.out.size)); have HX2 := hid (HX1.out.below hb2 HX1.out.lt); have y0 := HX2.out.at (k := 0) (v := .int .i64 op) rfl; have y1 := HX2.out.at (k := 1) (v := .int .i64 a) rfl; have y2 := HX2.out.at (k := 2) (v := .int .i64 b) rfl; have y3 := HX2.out.at (k := 3) (v := .int .u64 (n : Nat)) rfl; have y4 := HX2.out.at (k := 4) (v := .int .u64 (h : Nat)) rfl; have y5 := HX2.out.at (k := 5) (v := .slice pl nl cl) rfl; have y6 := HX2.out.at (k := 6) (v := .slice pb nb cb) rfl; have y7 := HX2.out.at (k := 7) (v := .slice pe ne ce) rfl; have y8 := HX2.out.at (k := 8) (v := .bool ot) rfl; have f1 := HX2.out.free 1; have f2 := HX2.out.free 2; have f5 := HX2.out.free 5; clear hb2)
     | (go_at_call 145; (with_reducible refine (HIA _).out.mono ?_); rintro e w3 ⟨rfl,rfl⟩)
     | (go_at_call 145; (with_reducible refine (HIB _).out.mono ?_); rintro e w3 ⟨rfl,rfl⟩))
    have HX3 := hid (((HX2.out.set (k := 1) (.int .i64 0)).set (k := 2) (.int .i64 0)).set (k := 5) (.slice none 0 0))
    have HB3 := hid (((HB2.out.setCell (p := ⟨w.heap.size,1,none⟩) (Nat.le_refl _) (.int .i64 0)).setCell (p := ⟨w.heap.size,2,none⟩) (Nat.le_refl _) (.int .i64 0)).setCell (p := ⟨w.heap.size,5,none⟩) (Nat.le_refl _) (.slice none 0 0))
    clear y0 y1 y2 y3 y4 y5 y6 y7 y8 f1 f2 f5
    generalize (((w2.setCell ⟨w.heap.size,1,none⟩ (.int .i64 0)).setCell ⟨w.heap.size,2,none⟩ (.int .i64 0)).setCell ⟨w.heap.size,5,none⟩ (.slice none 0 0)) = W3 at *
    go_wp2
    go_ret
    exact ⟨by simp,HB3.out⟩
end Go.Proofs.YtjgeedgphcjhoaaGreat
namespace Go.Proofs.YtjgeedgphcjhoaaGreat
open Go.RowKit
/-- What may stand in an instruction's fields, by the kind of what stands behind it. -/
def okB (k op a b : Int) (n h : Nat) (l : List Int) (ot : Bool) (nb ne : Nat) : Bool :=
 if k = 1 then blB op a b n h ot l.length nb ne
 else if k = 2 ∨ k = 4 ∨ k = 7 ∨ k = 8 ∨ k = 9 ∨ k = 17 ∨ k = 18 ∨ k = 21 then idxB a && unB 0 b n h ot l.length nb ne
 else if k = 3 then (idxB a && l.all idxB) && unB 0 b n h ot 0 nb ne
 else if k = 5 ∨ k = 20 ∨ k = 22 ∨ k = 10 then (idxB a && idxB b) && unB 0 0 n h ot l.length nb ne
 else if k = 6 then l.all valB && unB a b n h ot 0 nb ne
 else if k = 26 then (idxB a && idxB b && ((l.length : Int) == 1) && byteB (l.headD 0)) && unB 0 0 n h ot 0 nb ne
 else if k = 12 ∨ k = 14 then decide ((n : Int) ≤ 4294967295) && unB a b 0 h ot l.length nb ne
 else if k = 13 ∨ k = 15 then unB a b 0 h ot l.length nb ne
 else if k = 23 then unB a b 0 0 ot l.length nb ne
 else if k = 16 then refB a && unB 0 b n h ot l.length nb ne
 else if k = 24 then (((l.length : Int) == 16) && l.all byteB) && unB a b n h ot 0 nb ne
 else if k = 25 then byteB a && unB 0 b n h ot l.length nb ne
 else unB a b n h ot l.length nb ne
noncomputable def insB (op a b : Int) (n h : Nat) (l : List Int) (ot : Bool) (nb ne : Nat) : Bool := knB (lineL op) && okB (lineL op).2.1 op a b n h l ot nb ne
set_option maxHeartbeats 4000000 in
theorem ins_unknown (op : Int) (a b : Int) (n h : Nat) (nl : Nat) (pl pb pe : Option Addr) (cl nb cb ne ce : Nat) (ot : Bool) (w : World)
  (hk : ∀ W,Calls Tryz.prog 233 #[.int .i64 op] W fun e w' => e = .returned (.bool false) ∧ Below W.heap.size W w') :
  Calls Tryz.prog 214 #[.agg #[.int .i64 op,.int .i64 a,.int .i64 b,.int .u64 (n : Nat),.int .u64 (h : Nat),.slice pl nl cl,.slice pb nb cb,.slice pe ne ce,.bool ot]] w fun e w' => e = .returned (.bool false) ∧ Below w.heap.size w w' := by
 have HK := fun W => hid (hk W)
 have HBX := hid ((Below.refl w.heap.size w).alloc (Nat.le_refl _) (.cells #[.int .i64 op,.int .i64 a,.int .i64 b,.int .u64 (n : Nat),.int .u64 (h : Nat),.slice pl nl cl,.slice pb nb cb,.slice pe ne ce,.bool ot] 39))
 clear hk
 go_enter Tryz.func214,Tryz.ntmps214
 go_wp2_with (go_at_call 233; (with_reducible refine (HK _).out.mono ?_); rintro e w1 ⟨rfl,hb1⟩; have HB1 := hid (HBX.out.trans (hb1.mono HBX.out.size)); clear hb1)
 go_ret
 exact ⟨rfl,HB1.out⟩
theorem isInstr_says (op a b : Int) (n h : Nat) (l : List Int) (nl : Nat) (hnl : nl = l.length) (pl pb pe : Option Addr) (cl nb cb ne ce : Nat) (ot : Bool) (B : Nat) (w : World) (hB : B ≤ w.heap.size) (hl : LI B w (.slice pl nl cl) l) (hn : nl < 9223372036854775807) :
  Calls Tryz.prog 214 #[.agg #[.int .i64 op,.int .i64 a,.int .i64 b,.int .u64 (n : Nat),.int .u64 (h : Nat),.slice pl nl cl,.slice pb nb cb,.slice pe ne ce,.bool ot]] w fun e w' => e = .returned (.bool (insB op a b n h l ot nb ne)) ∧ Below w.heap.size w w' := by
 have hK := Known_says op
 have hI := Imm_says op
 obtain ⟨h0,h1,_⟩ := line_ok op
 unfold insB
 generalize knB (lineL op) = kn at *
 generalize (lineL op).2.1 = k at *
 cases kn with
 | false => exact ins_unknown op a b n h nl pl pb pe cl nb cb ne ce ot w hK
 | true =>
  rw [Bool.true_and]
  rcases (show k = 0 ∨ k = 1 ∨ k = 2 ∨ k = 3 ∨ k = 4 ∨ k = 5 ∨ k = 6 ∨ k = 7 ∨ k = 8 ∨ k = 9 ∨ k = 10 ∨ k = 11 ∨ k = 12 ∨ k = 13 ∨ k = 14 ∨ k = 15 ∨ k = 16 ∨ k = 17 ∨ k = 18 ∨ k = 19 ∨ k = 20 ∨ k = 21 ∨ k = 22 ∨ k = 23 ∨ k = 24 ∨ k = 25 ∨ k = 26 by omega) with rfl | rfl | rfl | rfl | rfl | rfl | rfl | rfl | rfl | rfl | rfl | rfl | rfl | rfl | rfl | rfl | rfl | rfl | rfl | rfl | rfl | rfl | rfl | rfl | rfl | rfl | rfl
  ·have := ins_0 op a b n h l nl hnl pl pb pe cl nb cb ne ce ot B w hB hl hn hK hI
   rw [hnl] at this ⊢
   exact this
  ·have := ins_1 op a b n h nl pl pb pe cl nb cb ne ce ot w hK hI
   rw [hnl] at this ⊢
   exact this
  ·have := ins_2 op a b n h l nl hnl pl pb pe cl nb cb ne ce ot B w hB hl hn hK hI
   rw [hnl] at this ⊢
   exact this
  ·have := ins_3 op a b n h l nl hnl pl pb pe cl nb cb ne ce ot B w hB hl hn hK hI
   rw [hnl] at this ⊢
   exact this
  ·have := ins_4 op a b n h l nl hnl pl pb pe cl nb cb ne ce ot B w hB hl hn hK hI
   rw [hnl] at this ⊢
   exact this
  ·have := ins_5 op a b n h l nl hnl pl pb pe cl nb cb ne ce ot B w hB hl hn hK hI
   rw [hnl] at this ⊢
   exact this
  ·have := ins_6 op a b n h l nl hnl pl pb pe cl nb cb ne ce ot B w hB hl hn hK hI
   rw [hnl] at this ⊢
   exact this
  ·have := ins_7 op a b n h l nl hnl pl pb pe cl nb cb ne ce ot B w hB hl hn hK hI
   rw [hnl] at this ⊢
   exact this
  ·have := ins_8 op a b n h l nl hnl pl pb pe cl nb cb ne ce ot B w hB hl hn hK hI
   rw [hnl] at this ⊢
   exact this
  ·have := ins_9 op a b n h l nl hnl pl pb pe cl nb cb ne ce ot B w hB hl hn hK hI
   rw [hnl] at this ⊢
   exact this
  ·have := ins_10 op a b n h l nl hnl pl pb pe cl nb cb ne ce ot B w hB hl hn hK hI
   rw [hnl] at this ⊢
   exact this
  ·have := ins_11 op a b n h l nl hnl pl pb pe cl nb cb ne ce ot B w hB hl hn hK hI
   rw [hnl] at this ⊢
   exact this
  ·have := ins_12 op a b n h l nl hnl pl pb pe cl nb cb ne ce ot B w hB hl hn hK hI
   rw [hnl] at this ⊢
   exact this
  ·have := ins_13 op a b n h l nl hnl pl pb pe cl nb cb ne ce ot B w hB hl hn hK hI
   rw [hnl] at this ⊢
   exact this
  ·have := ins_14 op a b n h l nl hnl pl pb pe cl nb cb ne ce ot B w hB hl hn hK hI
   rw [hnl] at this ⊢
   exact this
  ·have := ins_15 op a b n h l nl hnl pl pb pe cl nb cb ne ce ot B w hB hl hn hK hI
   rw [hnl] at this ⊢
   exact this
  ·have := ins_16 op a b n h l nl hnl pl pb pe cl nb cb ne ce ot B w hB hl hn hK hI
   rw [hnl] at this ⊢
   exact this
  ·have := ins_17 op a b n h l nl hnl pl pb pe cl nb cb ne ce ot B w hB hl hn hK hI
   rw [hnl] at this ⊢
   exact this
  ·have := ins_18 op a b n h l nl hnl pl pb pe cl nb cb ne ce ot B w hB hl hn hK hI
   rw [hnl] at this ⊢
   exact this
  ·have := ins_19 op a b n h l nl hnl pl pb pe cl nb cb ne ce ot B w hB hl hn hK hI
   rw [hnl] at this ⊢
   exact this
  ·have := ins_20 op a b n h l nl hnl pl pb pe cl nb cb ne ce ot B w hB hl hn hK hI
   rw [hnl] at this ⊢
   exact this
  ·have := ins_21 op a b n h l nl hnl pl pb pe cl nb cb ne ce ot B w hB hl hn hK hI
   rw [hnl] at this ⊢
   exact this
  ·have := ins_22 op a b n h l nl hnl pl pb pe cl nb cb ne ce ot B w hB hl hn hK hI
   rw [hnl] at this ⊢
   exact this
  ·have := ins_23 op a b n h l nl hnl pl pb pe cl nb cb ne ce ot B w hB hl hn hK hI
   rw [hnl] at this ⊢
   exact this
  ·have := ins_24 op a b n h l nl hnl pl pb pe cl nb cb ne ce ot B w hB hl hn hK hI
   rw [hnl] at this ⊢
   exact this
  ·have := ins_25 op a b n h l nl hnl pl pb pe cl nb cb ne ce ot B w hB hl hn hK hI
   rw [hnl] at this ⊢
   exact this
  ·have := ins_26 op a b n h l nl hnl pl pb pe cl nb cb ne ce ot B w hB hl hK hI
   rw [hnl] at this ⊢
   exact this
end Go.Proofs.YtjgeedgphcjhoaaGreat
namespace Go.Proofs.YtjgeedgphcjhoaaGreat
open Go.RowKit
theorem KP.set (w : World) (g k : Nat) (v : Value) : KP (some g) w (w.setCell ⟨g,k,none⟩ v) := ⟨rfl,rfl,rfl,by simp [World.setCell],fun i hi hc => Below.heap_setCell _ _ _ _ (fun e => hc (by rw [e]))⟩
noncomputable def codeSt (_ : Unit) (d op a b : Int) (n h : Nat) (l : List Int) (ot : Bool) (body els : Fo) : Bool × Unit := (decide (d ≤ 500) && insB op a b n h l ot body.len els.len,())
noncomputable def codeB (f : Fo) : Bool := (evF codeSt f 1 ()).1
noncomputable def dataSt (_ : Unit) (d op a b : Int) (n h : Nat) (l : List Int) (ot : Bool) (body els : Fo) : Bool × Unit := ((lineL op).2.1 != 17 && (lineL op).2.1 != 18,())
noncomputable def dataB (f : Fo) : Bool := (evF dataSt f 1 ()).1
def nestSt (s : Int) (d op a b : Int) (n h : Nat) (l : List Int) (ot : Bool) (body els : Fo) : Bool × Int := (true,max s d)
def countSt (s : Int) (d op a b : Int) (n h : Nat) (l : List Int) (ot : Bool) (body els : Fo) : Bool × Int := (true,wrap64 (s + 1))
set_option maxHeartbeats 2000000 in
theorem asks_code (B : Nat) : Asked 213 #[] (fun (_ : Unit) _ => True) codeSt B none := by
 intro s d op a b n h l ot body els vl vb ve w hd hB hc hl hbo hel hs
 obtain ⟨pl,cl,rfl,hq,_⟩ := id hl
 obtain ⟨pb,cb,_,_,rfl,_,_⟩ := hbo
 obtain ⟨pe,ce,_,_,rfl,_,_⟩ := hel
 show Calls Tryz.prog 213 #[.agg #[.int .i64 op,.int .i64 a,.int .i64 b,.int .u64 (n : Nat),.int .u64 (h : Nat),.slice pl l.length cl,.slice pb body.len cb,.slice pe els.len ce,.bool ot],.int .i64 d] w fun e w' => e = .returned (.bool (decide (d ≤ 500) && insB op a b n h l ot body.len els.len)) ∧ True ∧ KP none w w'
 have HI : ∀ W,Below w.heap.size w W → Hid (Calls Tryz.prog 214 #[.agg #[.int .i64 op,.int .i64 a,.int .i64 b,.int .u64 (n : Nat),.int .u64 (h : Nat),.slice pl l.length cl,.slice pb body.len cb,.slice pe els.len ce,.bool ot]] W fun e w' => e = .returned (.bool (insB op a b n h l ot body.len els.len)) ∧ Below W.heap.size W w') := fun W hW => isInstr_says op a b n h l l.length rfl pl pb pe cl body.len cb els.len ce ot B W (Nat.le_trans hB hW.size) (hl.below (hW.mono hB)) hq
 generalize insB op a b n h l ot body.len els.len = u at *
 generalize l.length = nl at *
 generalize body.len = nb at *
 generalize els.len = ne at *
 have HBX := hid ((Below.refl w.heap.size w).alloc (Nat.le_refl _) (.cells #[.int .i64 op,.int .i64 a,.int .i64 b,.int .u64 (n : Nat),.int .u64 (h : Nat),.slice pl nl cl,.slice pb nb cb,.slice pe ne ce,.bool ot] 39))
 obtain ⟨b5,d5⟩ : ∃ x,decide (d ≤ 500) = x := ⟨_,rfl⟩
 rw [d5]
 clear hl hq hd hs hB hc
 cases b5 with
 | false =>
  go_enter Tryz.func213,Tryz.ntmps213
  go_wp2
  go_ret
  exact ⟨rfl,trivial,KP.of HBX.out⟩
 | true =>
  go_enter Tryz.func213,Tryz.ntmps213
  go_wp2_with (go_at_call 214; (with_reducible refine (HI _ HBX.out).out.mono ?_); rintro e w1 ⟨rfl,hb1⟩; have HB1 := hid (HBX.out.trans (hb1.mono HBX.out.size)); clear hb1)
  go_ret
  exact ⟨by simp,trivial,KP.of HB1.out⟩
theorem isCode_says (f : Fo) (v : Value) (B : Nat) (w : World) (hn : f.cnt < 9223372036854775806) (hB : B ≤ w.heap.size) (hs : SA B w v f) : Calls Tryz.prog 148 #[v] w fun e w' => e = .returned (.bool (codeB f)) ∧ Below w.heap.size w w' := by
 have H := hid (every_says 213 #[] (fun _ _ => rfl) (fun (_ : Unit) _ => True) codeSt B none (fun k e => by cases e) (fun _ _ _ _ _ => trivial) (asks_code B) f () v w hn hB (fun k e => by cases e) hs trivial)
 unfold codeB
 generalize (evF codeSt f 1 ()).1 = r at *
 clear hs hn
 go_enter Tryz.func148,Tryz.ntmps148
 go_wp2_with (go_at_call 140; (with_reducible refine H.out.mono ?_); rintro e w1 ⟨rfl,_,hk1⟩)
 go_ret
 exact ⟨rfl,hk1.pure⟩
set_option maxHeartbeats 2000000 in
theorem asks_data (B : Nat) : Asked 151 #[] (fun (_ : Unit) _ => True) dataSt B none := by
 intro s d op a b n h l ot body els vl vb ve w hd hB hc hl hbo hel hs
 obtain ⟨pl,cl,rfl,hq,_⟩ := id hl
 obtain ⟨pb,cb,_,_,rfl,_,_⟩ := hbo
 obtain ⟨pe,ce,_,_,rfl,_,_⟩ := hel
 have HI := fun W => hid (Imm_says op W)
 unfold dataSt
 generalize (lineL op).2.1 = k at *
 show Calls Tryz.prog 151 #[.agg #[.int .i64 op,.int .i64 a,.int .i64 b,.int .u64 (n : Nat),.int .u64 (h : Nat),.slice pl l.length cl,.slice pb body.len cb,.slice pe els.len ce,.bool ot],.int .i64 d] w fun e w' => e = .returned (.bool (k != 17 && k != 18)) ∧ True ∧ KP none w w'
 generalize l.length = nl at *
 generalize body.len = nb at *
 generalize els.len = ne at *
 have HBX := hid ((Below.refl w.heap.size w).alloc (Nat.le_refl _) (.cells #[.int .i64 op,.int .i64 a,.int .i64 b,.int .u64 (n : Nat),.int .u64 (h : Nat),.slice pl nl cl,.slice pb nb cb,.slice pe ne ce,.bool ot] 39))
 obtain ⟨b5,d5⟩ : ∃ x,(k != 17) = x := ⟨_,rfl⟩
 rw [d5]
 clear hl hq hd hs hB hc
 cases b5
 all_goals
  go_enter Tryz.func151,Tryz.ntmps151
  go_wp2_with (go_at_call 152; (with_reducible refine (HI _).out.mono ?_); rintro e w1 ⟨rfl,hb1⟩; have HB1 := hid (HBX.out.trans (hb1.mono HBX.out.size)); clear hb1)
  go_ret
  exact ⟨by simp,trivial,KP.of HB1.out⟩
/-- The box of a counter. -/
def Cnt (g : Nat) (s : Int) (W : World) : Prop := CA g #[.int .i64 s] 3 W
set_option maxHeartbeats 2000000 in
theorem asks_nest (B g : Nat) (hg : B ≤ g) : Asked 141 #[.pointer (some ⟨g,0,none⟩)] (Cnt g) nestSt B (some g) := by
 intro s d op a b n h l ot body els vl vb ve w hd hB hc hl hbo hel hs
 obtain ⟨pl,cl,rfl,hq,_⟩ := id hl
 obtain ⟨pb,cb,_,_,rfl,_,_⟩ := hbo
 obtain ⟨pe,ce,_,_,rfl,_,_⟩ := hel
 have hgw := hc g rfl
 show Calls Tryz.prog 141 #[.agg #[.int .i64 op,.int .i64 a,.int .i64 b,.int .u64 (n : Nat),.int .u64 (h : Nat),.slice pl l.length cl,.slice pb body.len cb,.slice pe els.len ce,.bool ot],.int .i64 d,.pointer (some ⟨g,0,none⟩)] w fun e w' => e = .returned (.bool true) ∧ Cnt g (max s d) w' ∧ KP (some g) w w'
 generalize l.length = nl at *
 generalize body.len = nb at *
 generalize els.len = ne at *
 have HC := hid (CA.alloc hs (.cells #[.int .i64 op,.int .i64 a,.int .i64 b,.int .u64 (n : Nat),.int .u64 (h : Nat),.slice pl nl cl,.slice pb nb cb,.slice pe ne ce,.bool ot] 39))
 have HK := hid (KP.alloc (KP.refl (some g) w) (.cells #[.int .i64 op,.int .i64 a,.int .i64 b,.int .u64 (n : Nat),.int .u64 (h : Nat),.slice pl nl cl,.slice pb nb cb,.slice pe ne ce,.bool ot] 39))
 clear hl hq hd hs hB hc
 go_enter Tryz.func141,Tryz.ntmps141
 go_upto_region 1 with fail
 generalize w.alloc (.cells #[.int .i64 op,.int .i64 a,.int .i64 b,.int .u64 (n : Nat),.int .u64 (h : Nat),.slice pl nl cl,.slice pb nb cb,.slice pe ne ce,.bool ot] 39) = W1 at *
 have x0 := HC.out.at (k := 0) (v := .int .i64 s) rfl
 have f0 := HC.out.free 0
 go_wp2
 all_goals go_ret
 ·have hm : max s d = d := by omega
  rw [hm]
  exact ⟨rfl,CA.set HC.out (k := 0) (.int .i64 d),HK.out.trans (KP.set W1 g 0 _)⟩
 ·have hm : max s d = s := by omega
  rw [hm]
  exact ⟨rfl,CA.set HC.out (k := 0) (.int .i64 s),HK.out.trans (KP.set W1 g 0 _)⟩
set_option maxHeartbeats 2000000 in
theorem asks_count (B g : Nat) (hg : B ≤ g) : Asked 142 #[.pointer (some ⟨g,0,none⟩)] (Cnt g) countSt B (some g) := by
 intro s d op a b n h l ot body els vl vb ve w hd hB hc hl hbo hel hs
 obtain ⟨pl,cl,rfl,hq,_⟩ := id hl
 obtain ⟨pb,cb,_,_,rfl,_,_⟩ := hbo
 obtain ⟨pe,ce,_,_,rfl,_,_⟩ := hel
 have hgw := hc g rfl
 show Calls Tryz.prog 142 #[.agg #[.int .i64 op,.int .i64 a,.int .i64 b,.int .u64 (n : Nat),.int .u64 (h : Nat),.slice pl l.length cl,.slice pb body.len cb,.slice pe els.len ce,.bool ot],.int .i64 d,.pointer (some ⟨g,0,none⟩)] w fun e w' => e = .returned (.bool true) ∧ Cnt g (wrap64 (s + 1)) w' ∧ KP (some g) w w'
 generalize l.length = nl at *
 generalize body.len = nb at *
 generalize els.len = ne at *
 have HC := hid (CA.alloc hs (.cells #[.int .i64 op,.int .i64 a,.int .i64 b,.int .u64 (n : Nat),.int .u64 (h : Nat),.slice pl nl cl,.slice pb nb cb,.slice pe ne ce,.bool ot] 39))
 have HK := hid (KP.alloc (KP.refl (some g) w) (.cells #[.int .i64 op,.int .i64 a,.int .i64 b,.int .u64 (n : Nat),.int .u64 (h : Nat),.slice pl nl cl,.slice pb nb cb,.slice pe ne ce,.bool ot] 39))
 clear hl hq hd hs hB hc
 go_enter Tryz.func142,Tryz.ntmps142
 go_upto_region 1 with fail
 generalize w.alloc (.cells #[.int .i64 op,.int .i64 a,.int .i64 b,.int .u64 (n : Nat),.int .u64 (h : Nat),.slice pl nl cl,.slice pb nb cb,.slice pe ne ce,.bool ot] 39) = W1 at *
 have x0 := HC.out.at (k := 0) (v := .int .i64 s) rfl
 have f0 := HC.out.free 0
 go_wp2
 go_ret
 exact ⟨rfl,HC.out.set (k := 0) (.int .i64 (wrap64 (s + 1))),HK.out.trans (KP.set W1 g 0 _)⟩
set_option maxHeartbeats 2000000 in
theorem Nest_says (f : Fo) (v : Value) (w : World) (hn : f.cnt < 9223372036854775806) (hs : SA w.heap.size w v f) : Calls Tryz.prog 28 #[v] w fun e w' => e = .returned (.int .i64 (evF nestSt f 1 0).2) ∧ Below w.heap.size w w' := by
 have hb := (Below.refl w.heap.size w).alloc (Nat.le_refl _) (.cells #[.int .i64 0] 3)
 have H := hid (every_says 141 #[.pointer (some ⟨w.heap.size,0,none⟩)] (fun _ _ => rfl) (Cnt w.heap.size) nestSt w.heap.size (some w.heap.size) (fun k e => by cases e; exact Nat.le_refl _) (fun _ _ o _ h => CA.alloc h o) (asks_nest w.heap.size w.heap.size (Nat.le_refl _)) f 0 v (w.alloc (.cells #[.int .i64 0] 3)) hn hb.size (fun k e => by cases e; rw [size_al]; omega) (SA.below hs hb) (CA.new w #[.int .i64 0] 3))
 generalize evF nestSt f 1 0 = r at *
 have HB := hid hb
 clear hs hn hb
 go_enter Tryz.func28,Tryz.ntmps28
 go_wp2_with (go_at_call 140; (with_reducible refine H.out.mono ?_); rintro e w1 ⟨rfl,hc1,hk1⟩; have y0 := CA.at (k := 0) (v := .int .i64 r.2) hc1 rfl; have HK1 := hid (HB.out.trans (hk1.below HB.out.size (fun k e => by cases e; exact Nat.le_refl _))); clear hc1 hk1)
 go_ret
 exact ⟨rfl,HK1.out⟩
set_option maxHeartbeats 2000000 in
theorem Count_says (f : Fo) (v : Value) (w : World) (hn : f.cnt < 9223372036854775806) (hs : SA w.heap.size w v f) : Calls Tryz.prog 29 #[v] w fun e w' => e = .returned (.int .i64 (evF countSt f 1 0).2) ∧ Below w.heap.size w w' := by
 have hb := (Below.refl w.heap.size w).alloc (Nat.le_refl _) (.cells #[.int .i64 0] 3)
 have H := hid (every_says 142 #[.pointer (some ⟨w.heap.size,0,none⟩)] (fun _ _ => rfl) (Cnt w.heap.size) countSt w.heap.size (some w.heap.size) (fun k e => by cases e; exact Nat.le_refl _) (fun _ _ o _ h => CA.alloc h o) (asks_count w.heap.size w.heap.size (Nat.le_refl _)) f 0 v (w.alloc (.cells #[.int .i64 0] 3)) hn hb.size (fun k e => by cases e; rw [size_al]; omega) (SA.below hs hb) (CA.new w #[.int .i64 0] 3))
 generalize evF countSt f 1 0 = r at *
 have HB := hid hb
 clear hs hn hb
 go_enter Tryz.func29,Tryz.ntmps29
 go_wp2_with (go_at_call 140; (with_reducible refine H.out.mono ?_); rintro e w1 ⟨rfl,hc1,hk1⟩; have y0 := CA.at (k := 0) (v := .int .i64 r.2) hc1 rfl; have HK1 := hid (HB.out.trans (hk1.below HB.out.size (fun k e => by cases e; exact Nat.le_refl _))); clear hc1 hk1)
 go_ret
 exact ⟨rfl,HK1.out⟩
end Go.Proofs.YtjgeedgphcjhoaaGreat
