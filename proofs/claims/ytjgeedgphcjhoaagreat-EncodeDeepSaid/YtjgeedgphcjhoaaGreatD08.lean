/-
  Ins6, Instr, Code, All, Cop6, Aw1, In1, In2, Nest: merged, what the law does not reach left out (each text says what it holds where it lies in wip). No condition.
-/
import Derived.Test.YtjgeedgphcjhoaaGreatD03
import Derived.Test.YtjgeedgphcjhoaaGreatD04
import Derived.Test.YtjgeedgphcjhoaaGreatD05
import Derived.Test.YtjgeedgphcjhoaaGreatD06
import Derived.Test.YtjgeedgphcjhoaaGreatD07
import Derived.OwnWalk
import Derived.Laws.OwnMore
import Derived.Lib.SliceRun
import Derived.Laws.Bits64b
import Derived.Test.YtjgeedgphcjhoaaGreatD02
set_option linter.unusedSimpArgs false
set_option linter.unusedVariables false
set_option maxRecDepth 100000
namespace Go.Proofs.YtjgeedgphcjhoaaGreat
open Go.RowKit
set_option maxHeartbeats 4000000 in
theorem ins_1 (op a b : Int) (n h : Nat) (nl : Nat) (pl pb pe : Option Addr) (cl nb cb ne ce : Nat) (ot : Bool) (w : World)
  (hk : ∀ W, Calls Tryz.prog 233 #[.int .i64 op] W fun e w' => e = .returned (.bool true) ∧ Below W.heap.size W w') (hi : ∀ W, Calls Tryz.prog 152 #[.int .i64 op] W fun e w' => e = .returned (.int .i64 1) ∧ Below W.heap.size W w') :
  Calls Tryz.prog 214 #[.agg #[.int .i64 op, .int .i64 a, .int .i64 b, .int .u64 (n : Nat), .int .u64 (h : Nat), .slice pl nl cl, .slice pb nb cb, .slice pe ne ce, .bool ot]] w fun e w' => e = .returned (.bool (blB op a b n h ot nl nb ne)) ∧ Below w.heap.size w w' := by
 have HK := fun W => hid (hk W)
 have HI := fun W => hid (hi W)
 have HU := fun W => hid (isBlock_says op a b n h pl pb pe nl cl nb cb ne ce ot W)
 generalize blB op a b n h ot nl nb ne = u at *
 have HBX := hid ((Below.refl w.heap.size w).alloc (Nat.le_refl _) (.cells #[.int .i64 op, .int .i64 a, .int .i64 b, .int .u64 (n : Nat), .int .u64 (h : Nat), .slice pl nl cl, .slice pb nb cb, .slice pe ne ce, .bool ot] 39))
 have HX := hid (CA.new w #[.int .i64 op, .int .i64 a, .int .i64 b, .int .u64 (n : Nat), .int .u64 (h : Nat), .slice pl nl cl, .slice pb nb cb, .slice pe ne ce, .bool ot] 39)
 clear hk hi
 go_enter Tryz.func214, Tryz.ntmps214
 go_wp2_with (first
  | (go_at_call 233; (with_reducible refine (HK _).out.mono ?_); rintro e w1 ⟨rfl, hb1⟩; have HB1 := hid (HBX.out.trans (hb1.mono HBX.out.size)); have HX1 := hid (HX.out.below hb1 HX.out.lt); have z0 := HX1.out.at (k := 0) (v := .int .i64 op) rfl; clear hb1)
  | (go_at_call 152; (with_reducible refine (HI _).out.mono ?_); rintro e w2 ⟨rfl, hb2⟩; have HB2 := hid (HB1.out.trans (hb2.mono HB1.out.size)); have HX2 := hid (HX1.out.below hb2 HX1.out.lt); have y0 := HX2.out.at (k := 0) (v := .int .i64 op) rfl; have y1 := HX2.out.at (k := 1) (v := .int .i64 a) rfl; have y2 := HX2.out.at (k := 2) (v := .int .i64 b) rfl; have y3 := HX2.out.at (k := 3) (v := .int .u64 (n : Nat)) rfl; have y4 := HX2.out.at (k := 4) (v := .int .u64 (h : Nat)) rfl; have y5 := HX2.out.at (k := 5) (v := .slice pl nl cl) rfl; have y6 := HX2.out.at (k := 6) (v := .slice pb nb cb) rfl; have y7 := HX2.out.at (k := 7) (v := .slice pe ne ce) rfl; have y8 := HX2.out.at (k := 8) (v := .bool ot) rfl; clear hb2)
  | (go_at_call 234; (with_reducible refine (HU _).out.mono ?_); rintro e w4 ⟨rfl, hb4⟩; have HB4 := hid (HB2.out.trans (hb4.mono HB2.out.size)); clear hb4))
 go_ret
 exact ⟨rfl, HB4.out⟩
set_option maxHeartbeats 4000000 in
theorem ins_26 (op a b : Int) (n h : Nat) (l : List Int) (nl : Nat) (hnl : nl = l.length) (pl pb pe : Option Addr) (cl nb cb ne ce : Nat) (ot : Bool) (B : Nat) (w : World) (hB : B ≤ w.heap.size) (hl : LI B w (.slice pl nl cl) l)
  (hk : ∀ W, Calls Tryz.prog 233 #[.int .i64 op] W fun e w' => e = .returned (.bool true) ∧ Below W.heap.size W w') (hi : ∀ W, Calls Tryz.prog 152 #[.int .i64 op] W fun e w' => e = .returned (.int .i64 26) ∧ Below W.heap.size W w') :
  Calls Tryz.prog 214 #[.agg #[.int .i64 op, .int .i64 a, .int .i64 b, .int .u64 (n : Nat), .int .u64 (h : Nat), .slice pl nl cl, .slice pb nb cb, .slice pe ne ce, .bool ot]] w fun e w' => e = .returned (.bool ((idxB a && idxB b && ((nl : Int) == 1) && byteB (l.headD 0)) && unB 0 0 n h ot 0 nb ne)) ∧ Below w.heap.size w w' := by
 have HK := fun W => hid (hk W)
 have HI := fun W => hid (hi W)
 have HU := fun W => hid (isUnused_says op 0 0 n h none pb pe 0 0 nb cb ne ce ot W)
 generalize unB 0 0 n h ot 0 nb ne = u at *
 have HBX := hid ((Below.refl w.heap.size w).alloc (Nat.le_refl _) (.cells #[.int .i64 op, .int .i64 a, .int .i64 b, .int .u64 (n : Nat), .int .u64 (h : Nat), .slice pl nl cl, .slice pb nb cb, .slice pe ne ce, .bool ot] 39))
 have HX := hid (CA.new w #[.int .i64 op, .int .i64 a, .int .i64 b, .int .u64 (n : Nat), .int .u64 (h : Nat), .slice pl nl cl, .slice pb nb cb, .slice pe ne ce, .bool ot] 39)
 have HIA := fun W => hid (isIndex_says a W)
 generalize idxB a = ia at *
 have HIB := fun W => hid (isIndex_says b W)
 generalize idxB b = ib at *
 by_cases h1 : nl = 1
 ·obtain ⟨x, rfl⟩ : ∃ x, l = [x] := List.length_eq_one_iff.1 (by omega)
  obtain ⟨p, c, e1, -, hx⟩ := hl
  obtain ⟨g, o, e2, hg, hxx⟩ := hx (by simp)
  simp only [Value.slice.injEq] at e1
  obtain ⟨rfl, -, -⟩ := e1
  subst e2
  have HC0 := hid (hxx 0 x rfl)
  rw [Nat.add_zero] at HC0
  have HG := hid (Nat.lt_of_lt_of_le hg hB)
  have HBY := fun W => hid (isByte_says x W)
  simp only [List.headD_cons]
  generalize byteB x = by' at *
  subst h1
  clear hk hi hxx hnl hx hg hB
  cases ia with
  | false =>
   go_enter Tryz.func214, Tryz.ntmps214
   go_upto_region 50 with (first
    | (go_at_call 233; (with_reducible refine (HK _).out.mono ?_); rintro e w1 ⟨rfl, hb1⟩; have HB1 := hid (HBX.out.trans (hb1.mono HBX.out.size)); have HX1 := hid (HX.out.below hb1 HX.out.lt); have z0 := HX1.out.at (k := 0) (v := .int .i64 op) rfl; clear hb1)
    | (go_at_call 152; (with_reducible refine (HI _).out.mono ?_); rintro e w2 ⟨rfl, hb2⟩; have HB2 := hid (HB1.out.trans (hb2.mono HB1.out.size)); have HX2 := hid (HX1.out.below hb2 HX1.out.lt); have y0 := HX2.out.at (k := 0) (v := .int .i64 op) rfl; have y1 := HX2.out.at (k := 1) (v := .int .i64 a) rfl; have y2 := HX2.out.at (k := 2) (v := .int .i64 b) rfl; have y3 := HX2.out.at (k := 3) (v := .int .u64 (n : Nat)) rfl; have y4 := HX2.out.at (k := 4) (v := .int .u64 (h : Nat)) rfl; have y5 := HX2.out.at (k := 5) (v := .slice (some ⟨g, o, none⟩) 1 cl) rfl; have y6 := HX2.out.at (k := 6) (v := .slice pb nb cb) rfl; have y7 := HX2.out.at (k := 7) (v := .slice pe ne ce) rfl; have y8 := HX2.out.at (k := 8) (v := .bool ot) rfl; have f1 := HX2.out.free 1; have f2 := HX2.out.free 2; have f5 := HX2.out.free 5; clear hb2)
    | (go_at_call 145; (with_reducible refine (HIA _).out.mono ?_); rintro e w3 ⟨rfl, rfl⟩)
    | (go_at_call 145; (with_reducible refine (HIB _).out.mono ?_); rintro e w3 ⟨rfl, rfl⟩))
   have HX3 := hid (((HX2.out.set (k := 1) (.int .i64 0)).set (k := 2) (.int .i64 0)).set (k := 5) (.slice none 0 0))
   have HB3 := hid (((HB2.out.setCell (p := ⟨w.heap.size, 1, none⟩) (Nat.le_refl _) (.int .i64 0)).setCell (p := ⟨w.heap.size, 2, none⟩) (Nat.le_refl _) (.int .i64 0)).setCell (p := ⟨w.heap.size, 5, none⟩) (Nat.le_refl _) (.slice none 0 0))
   clear y0 y1 y2 y3 y4 y5 y6 y7 y8 f1 f2 f5
   generalize (((w2.setCell ⟨w.heap.size, 1, none⟩ (.int .i64 0)).setCell ⟨w.heap.size, 2, none⟩ (.int .i64 0)).setCell ⟨w.heap.size, 5, none⟩ (.slice none 0 0)) = W3 at *
   go_wp2
   go_ret
   exact ⟨by simp, HB3.out⟩
  | true =>
   cases ib with
   | false =>
    go_enter Tryz.func214, Tryz.ntmps214
    go_upto_region 50 with (first
     | (go_at_call 233; (with_reducible refine (HK _).out.mono ?_); rintro e w1 ⟨rfl, hb1⟩; have HB1 := hid (HBX.out.trans (hb1.mono HBX.out.size)); have HX1 := hid (HX.out.below hb1 HX.out.lt); have z0 := HX1.out.at (k := 0) (v := .int .i64 op) rfl; clear hb1)
     | (go_at_call 152; (with_reducible refine (HI _).out.mono ?_); rintro e w2 ⟨rfl, hb2⟩; have HB2 := hid (HB1.out.trans (hb2.mono HB1.out.size)); have HX2 := hid (HX1.out.below hb2 HX1.out.lt); have y0 := HX2.out.at (k := 0) (v := .int .i64 op) rfl; have y1 := HX2.out.at (k := 1) (v := .int .i64 a) rfl; have y2 := HX2.out.at (k := 2) (v := .int .i64 b) rfl; have y3 := HX2.out.at (k := 3) (v := .int .u64 (n : Nat)) rfl; have y4 := HX2.out.at (k := 4) (v := .int .u64 (h : Nat)) rfl; have y5 := HX2.out.at (k := 5) (v := .slice (some ⟨g, o, none⟩) 1 cl) rfl; have y6 := HX2.out.at (k := 6) (v := .slice pb nb cb) rfl; have y7 := HX2.out.at (k := 7) (v := .slice pe ne ce) rfl; have y8 := HX2.out.at (k := 8) (v := .bool ot) rfl; have f1 := HX2.out.free 1; have f2 := HX2.out.free 2; have f5 := HX2.out.free 5; clear hb2)
     | (go_at_call 145; (with_reducible refine (HIA _).out.mono ?_); rintro e w3 ⟨rfl, rfl⟩)
     | (go_at_call 145; (with_reducible refine (HIB _).out.mono ?_); rintro e w3 ⟨rfl, rfl⟩))
    have HX3 := hid (((HX2.out.set (k := 1) (.int .i64 0)).set (k := 2) (.int .i64 0)).set (k := 5) (.slice none 0 0))
    have HB3 := hid (((HB2.out.setCell (p := ⟨w.heap.size, 1, none⟩) (Nat.le_refl _) (.int .i64 0)).setCell (p := ⟨w.heap.size, 2, none⟩) (Nat.le_refl _) (.int .i64 0)).setCell (p := ⟨w.heap.size, 5, none⟩) (Nat.le_refl _) (.slice none 0 0))
    clear y0 y1 y2 y3 y4 y5 y6 y7 y8 f1 f2 f5
    generalize (((w2.setCell ⟨w.heap.size, 1, none⟩ (.int .i64 0)).setCell ⟨w.heap.size, 2, none⟩ (.int .i64 0)).setCell ⟨w.heap.size, 5, none⟩ (.slice none 0 0)) = W3 at *
    go_wp2
    go_ret
    exact ⟨by simp, HB3.out⟩
   | true =>
    cases by' with
    | false =>
     go_enter Tryz.func214, Tryz.ntmps214
     go_upto_region 50 with (first
      | (go_at_call 233; (with_reducible refine (HK _).out.mono ?_); rintro e w1 ⟨rfl, hb1⟩; have HB1 := hid (HBX.out.trans (hb1.mono HBX.out.size)); have HX1 := hid (HX.out.below hb1 HX.out.lt); have z0 := HX1.out.at (k := 0) (v := .int .i64 op) rfl; clear hb1)
      | (go_at_call 152; (with_reducible refine (HI _).out.mono ?_); rintro e w2 ⟨rfl, hb2⟩; have HB2 := hid (HB1.out.trans (hb2.mono HB1.out.size)); have HX2 := hid (HX1.out.below hb2 HX1.out.lt); have y0 := HX2.out.at (k := 0) (v := .int .i64 op) rfl; have y1 := HX2.out.at (k := 1) (v := .int .i64 a) rfl; have y2 := HX2.out.at (k := 2) (v := .int .i64 b) rfl; have y3 := HX2.out.at (k := 3) (v := .int .u64 (n : Nat)) rfl; have y4 := HX2.out.at (k := 4) (v := .int .u64 (h : Nat)) rfl; have y5 := HX2.out.at (k := 5) (v := .slice (some ⟨g, o, none⟩) 1 cl) rfl; have y6 := HX2.out.at (k := 6) (v := .slice pb nb cb) rfl; have y7 := HX2.out.at (k := 7) (v := .slice pe ne ce) rfl; have y8 := HX2.out.at (k := 8) (v := .bool ot) rfl; have f1 := HX2.out.free 1; have f2 := HX2.out.free 2; have f5 := HX2.out.free 5; have x0 := (HB2.out.cell (p := ⟨g, o, none⟩) HG.out).trans HC0.out; clear hb2)
      | (go_at_call 145; (with_reducible refine (HIA _).out.mono ?_); rintro e w3 ⟨rfl, rfl⟩)
      | (go_at_call 145; (with_reducible refine (HIB _).out.mono ?_); rintro e w3 ⟨rfl, rfl⟩)
      | (go_at_call 235; (with_reducible refine (HBY _).out.mono ?_); rintro e w3 ⟨rfl, rfl⟩))
     have HX3 := hid (((HX2.out.set (k := 1) (.int .i64 0)).set (k := 2) (.int .i64 0)).set (k := 5) (.slice none 0 0))
     have HB3 := hid (((HB2.out.setCell (p := ⟨w.heap.size, 1, none⟩) (Nat.le_refl _) (.int .i64 0)).setCell (p := ⟨w.heap.size, 2, none⟩) (Nat.le_refl _) (.int .i64 0)).setCell (p := ⟨w.heap.size, 5, none⟩) (Nat.le_refl _) (.slice none 0 0))
     clear y0 y1 y2 y3 y4 y5 y6 y7 y8 f1 f2 f5
     generalize (((w2.setCell ⟨w.heap.size, 1, none⟩ (.int .i64 0)).setCell ⟨w.heap.size, 2, none⟩ (.int .i64 0)).setCell ⟨w.heap.size, 5, none⟩ (.slice none 0 0)) = W3 at *
     go_wp2
     go_ret
     exact ⟨by simp, HB3.out⟩
    | true =>
     go_enter Tryz.func214, Tryz.ntmps214
     go_upto_region 50 with (first
      | (go_at_call 233; (with_reducible refine (HK _).out.mono ?_); rintro e w1 ⟨rfl, hb1⟩; have HB1 := hid (HBX.out.trans (hb1.mono HBX.out.size)); have HX1 := hid (HX.out.below hb1 HX.out.lt); have z0 := HX1.out.at (k := 0) (v := .int .i64 op) rfl; clear hb1)
      | (go_at_call 152; (with_reducible refine (HI _).out.mono ?_); rintro e w2 ⟨rfl, hb2⟩; have HB2 := hid (HB1.out.trans (hb2.mono HB1.out.size)); have HX2 := hid (HX1.out.below hb2 HX1.out.lt); have y0 := HX2.out.at (k := 0) (v := .int .i64 op) rfl; have y1 := HX2.out.at (k := 1) (v := .int .i64 a) rfl; have y2 := HX2.out.at (k := 2) (v := .int .i64 b) rfl; have y3 := HX2.out.at (k := 3) (v := .int .u64 (n : Nat)) rfl; have y4 := HX2.out.at (k := 4) (v := .int .u64 (h : Nat)) rfl; have y5 := HX2.out.at (k := 5) (v := .slice (some ⟨g, o, none⟩) 1 cl) rfl; have y6 := HX2.out.at (k := 6) (v := .slice pb nb cb) rfl; have y7 := HX2.out.at (k := 7) (v := .slice pe ne ce) rfl; have y8 := HX2.out.at (k := 8) (v := .bool ot) rfl; have f1 := HX2.out.free 1; have f2 := HX2.out.free 2; have f5 := HX2.out.free 5; have x0 := (HB2.out.cell (p := ⟨g, o, none⟩) HG.out).trans HC0.out; clear hb2)
      | (go_at_call 145; (with_reducible refine (HIA _).out.mono ?_); rintro e w3 ⟨rfl, rfl⟩)
      | (go_at_call 145; (with_reducible refine (HIB _).out.mono ?_); rintro e w3 ⟨rfl, rfl⟩)
      | (go_at_call 235; (with_reducible refine (HBY _).out.mono ?_); rintro e w3 ⟨rfl, rfl⟩))
     have HX3 := hid (((HX2.out.set (k := 1) (.int .i64 0)).set (k := 2) (.int .i64 0)).set (k := 5) (.slice none 0 0))
     have HB3 := hid (((HB2.out.setCell (p := ⟨w.heap.size, 1, none⟩) (Nat.le_refl _) (.int .i64 0)).setCell (p := ⟨w.heap.size, 2, none⟩) (Nat.le_refl _) (.int .i64 0)).setCell (p := ⟨w.heap.size, 5, none⟩) (Nat.le_refl _) (.slice none 0 0))
     clear y0 y1 y2 y3 y4 y5 y6 y7 y8 f1 f2 f5
     generalize (((w2.setCell ⟨w.heap.size, 1, none⟩ (.int .i64 0)).setCell ⟨w.heap.size, 2, none⟩ (.int .i64 0)).setCell ⟨w.heap.size, 5, none⟩ (.slice none 0 0)) = W3 at *
     have x0' := HX3.out.at (k := 0) (v := .int .i64 op) rfl
     have x1' := HX3.out.at (k := 1) (v := .int .i64 0) rfl
     have x2' := HX3.out.at (k := 2) (v := .int .i64 0) rfl
     have x3' := HX3.out.at (k := 3) (v := .int .u64 (n : Nat)) rfl
     have x4' := HX3.out.at (k := 4) (v := .int .u64 (h : Nat)) rfl
     have x5' := HX3.out.at (k := 5) (v := .slice none 0 0) rfl
     have x6' := HX3.out.at (k := 6) (v := .slice pb nb cb) rfl
     have x7' := HX3.out.at (k := 7) (v := .slice pe ne ce) rfl
     have x8' := HX3.out.at (k := 8) (v := .bool ot) rfl
     go_wp2_with (go_at_call 236; (with_reducible refine (HU _).out.mono ?_); rintro e w4 ⟨rfl, hb4⟩)
     go_ret
     exact ⟨by simp, HB3.out.trans (hb4.mono HB3.out.size)⟩
 ·have d1 : ((nl : Int) == 1) = false := by simp; omega
  rw [d1]
  clear hk hi hl hnl
  cases ia with
  | false =>
   go_enter Tryz.func214, Tryz.ntmps214
   go_upto_region 50 with (first
    | (go_at_call 233; (with_reducible refine (HK _).out.mono ?_); rintro e w1 ⟨rfl, hb1⟩; have HB1 := hid (HBX.out.trans (hb1.mono HBX.out.size)); have HX1 := hid (HX.out.below hb1 HX.out.lt); have z0 := HX1.out.at (k := 0) (v := .int .i64 op) rfl; clear hb1)
    | (go_at_call 152; (with_reducible refine (HI _).out.mono ?_); rintro e w2 ⟨rfl, hb2⟩; have HB2 := hid (HB1.out.trans (hb2.mono HB1.out.size)); have HX2 := hid (HX1.out.below hb2 HX1.out.lt); have y0 := HX2.out.at (k := 0) (v := .int .i64 op) rfl; have y1 := HX2.out.at (k := 1) (v := .int .i64 a) rfl; have y2 := HX2.out.at (k := 2) (v := .int .i64 b) rfl; have y3 := HX2.out.at (k := 3) (v := .int .u64 (n : Nat)) rfl; have y4 := HX2.out.at (k := 4) (v := .int .u64 (h : Nat)) rfl; have y5 := HX2.out.at (k := 5) (v := .slice pl nl cl) rfl; have y6 := HX2.out.at (k := 6) (v := .slice pb nb cb) rfl; have y7 := HX2.out.at (k := 7) (v := .slice pe ne ce) rfl; have y8 := HX2.out.at (k := 8) (v := .bool ot) rfl; have f1 := HX2.out.free 1; have f2 := HX2.out.free 2; have f5 := HX2.out.free 5; clear hb2)
    | (go_at_call 145; (with_reducible refine (HIA _).out.mono ?_); rintro e w3 ⟨rfl, rfl⟩)
    | (go_at_call 145; (with_reducible refine (HIB _).out.mono ?_); rintro e w3 ⟨rfl, rfl⟩))
   have HX3 := hid (((HX2.out.set (k := 1) (.int .i64 0)).set (k := 2) (.int .i64 0)).set (k := 5) (.slice none 0 0))
   have HB3 := hid (((HB2.out.setCell (p := ⟨w.heap.size, 1, none⟩) (Nat.le_refl _) (.int .i64 0)).setCell (p := ⟨w.heap.size, 2, none⟩) (Nat.le_refl _) (.int .i64 0)).setCell (p := ⟨w.heap.size, 5, none⟩) (Nat.le_refl _) (.slice none 0 0))
   clear y0 y1 y2 y3 y4 y5 y6 y7 y8 f1 f2 f5
   generalize (((w2.setCell ⟨w.heap.size, 1, none⟩ (.int .i64 0)).setCell ⟨w.heap.size, 2, none⟩ (.int .i64 0)).setCell ⟨w.heap.size, 5, none⟩ (.slice none 0 0)) = W3 at *
   go_wp2
   go_ret
   exact ⟨by simp, HB3.out⟩
  | true =>
   cases ib with
   | false =>
    go_enter Tryz.func214, Tryz.ntmps214
    go_upto_region 50 with (first
     | (go_at_call 233; (with_reducible refine (HK _).out.mono ?_); rintro e w1 ⟨rfl, hb1⟩; have HB1 := hid (HBX.out.trans (hb1.mono HBX.out.size)); have HX1 := hid (HX.out.below hb1 HX.out.lt); have z0 := HX1.out.at (k := 0) (v := .int .i64 op) rfl; clear hb1)
     | (go_at_call 152; (with_reducible refine (HI _).out.mono ?_); rintro e w2 ⟨rfl, hb2⟩; have HB2 := hid (HB1.out.trans (hb2.mono HB1.out.size)); have HX2 := hid (HX1.out.below hb2 HX1.out.lt); have y0 := HX2.out.at (k := 0) (v := .int .i64 op) rfl; have y1 := HX2.out.at (k := 1) (v := .int .i64 a) rfl; have y2 := HX2.out.at (k := 2) (v := .int .i64 b) rfl; have y3 := HX2.out.at (k := 3) (v := .int .u64 (n : Nat)) rfl; have y4 := HX2.out.at (k := 4) (v := .int .u64 (h : Nat)) rfl; have y5 := HX2.out.at (k := 5) (v := .slice pl nl cl) rfl; have y6 := HX2.out.at (k := 6) (v := .slice pb nb cb) rfl; have y7 := HX2.out.at (k := 7) (v := .slice pe ne ce) rfl; have y8 := HX2.out.at (k := 8) (v := .bool ot) rfl; have f1 := HX2.out.free 1; have f2 := HX2.out.free 2; have f5 := HX2.out.free 5; clear hb2)
     | (go_at_call 145; (with_reducible refine (HIA _).out.mono ?_); rintro e w3 ⟨rfl, rfl⟩)
     | (go_at_call 145; (with_reducible refine (HIB _).out.mono ?_); rintro e w3 ⟨rfl, rfl⟩))
    have HX3 := hid (((HX2.out.set (k := 1) (.int .i64 0)).set (k := 2) (.int .i64 0)).set (k := 5) (.slice none 0 0))
    have HB3 := hid (((HB2.out.setCell (p := ⟨w.heap.size, 1, none⟩) (Nat.le_refl _) (.int .i64 0)).setCell (p := ⟨w.heap.size, 2, none⟩) (Nat.le_refl _) (.int .i64 0)).setCell (p := ⟨w.heap.size, 5, none⟩) (Nat.le_refl _) (.slice none 0 0))
    clear y0 y1 y2 y3 y4 y5 y6 y7 y8 f1 f2 f5
    generalize (((w2.setCell ⟨w.heap.size, 1, none⟩ (.int .i64 0)).setCell ⟨w.heap.size, 2, none⟩ (.int .i64 0)).setCell ⟨w.heap.size, 5, none⟩ (.slice none 0 0)) = W3 at *
    go_wp2
    go_ret
    exact ⟨by simp, HB3.out⟩
   | true =>
    go_enter Tryz.func214, Tryz.ntmps214
    go_upto_region 50 with (first
     | (go_at_call 233; (with_reducible refine (HK _).out.mono ?_); rintro e w1 ⟨rfl, hb1⟩; have HB1 := hid (HBX.out.trans (hb1.mono HBX.out.size)); have HX1 := hid (HX.out.below hb1 HX.out.lt); have z0 := HX1.out.at (k := 0) (v := .int .i64 op) rfl; clear hb1)
     | (go_at_call 152; (with_reducible refine (HI _).out.mono ?_); rintro e w2 ⟨rfl, hb2⟩; have HB2 := hid (HB1.out.trans (hb2.mono HB1.out.size)); have HX2 := hid (HX1.out.below hb2 HX1.out.lt); have y0 := HX2.out.at (k := 0) (v := .int .i64 op) rfl; have y1 := HX2.out.at (k := 1) (v := .int .i64 a) rfl; have y2 := HX2.out.at (k := 2) (v := .int .i64 b) rfl; have y3 := HX2.out.at (k := 3) (v := .int .u64 (n : Nat)) rfl; have y4 := HX2.out.at (k := 4) (v := .int .u64 (h : Nat)) rfl; have y5 := HX2.out.at (k := 5) (v := .slice pl nl cl) rfl; have y6 := HX2.out.at (k := 6) (v := .slice pb nb cb) rfl; have y7 := HX2.out.at (k := 7) (v := .slice pe ne ce) rfl; have y8 := HX2.out.at (k := 8) (v := .bool ot) rfl; have f1 := HX2.out.free 1; have f2 := HX2.out.free 2; have f5 := HX2.out.free 5; clear hb2)
     | (go_at_call 145; (with_reducible refine (HIA _).out.mono ?_); rintro e w3 ⟨rfl, rfl⟩)
     | (go_at_call 145; (with_reducible refine (HIB _).out.mono ?_); rintro e w3 ⟨rfl, rfl⟩))
    have HX3 := hid (((HX2.out.set (k := 1) (.int .i64 0)).set (k := 2) (.int .i64 0)).set (k := 5) (.slice none 0 0))
    have HB3 := hid (((HB2.out.setCell (p := ⟨w.heap.size, 1, none⟩) (Nat.le_refl _) (.int .i64 0)).setCell (p := ⟨w.heap.size, 2, none⟩) (Nat.le_refl _) (.int .i64 0)).setCell (p := ⟨w.heap.size, 5, none⟩) (Nat.le_refl _) (.slice none 0 0))
    clear y0 y1 y2 y3 y4 y5 y6 y7 y8 f1 f2 f5
    generalize (((w2.setCell ⟨w.heap.size, 1, none⟩ (.int .i64 0)).setCell ⟨w.heap.size, 2, none⟩ (.int .i64 0)).setCell ⟨w.heap.size, 5, none⟩ (.slice none 0 0)) = W3 at *
    go_wp2
    go_ret
    exact ⟨by simp, HB3.out⟩
end Go.Proofs.YtjgeedgphcjhoaaGreat
namespace Go.Proofs.YtjgeedgphcjhoaaGreat
open Go.RowKit
/-- What may stand in an instruction's fields, by the kind of what stands behind it. -/
def okB (k op a b : Int) (n h : Nat) (l : List Int) (ot : Bool) (nb ne : Nat) : Bool :=
 if k = 1 then blB op a b n h ot l.length nb ne
 else if k = 2 ∨ k = 4 ∨ k = 7 ∨ k = 8 ∨ k = 9 ∨ k = 17 ∨ k = 18 ∨ k = 21 then idxB a && unB 0 b n h ot l.length nb ne
 else if k = 3 then (idxB a && l.all idxB) && unB 0 b n h ot 0 nb ne
 else if k = 5 ∨ k = 20 ∨ k = 22 ∨ k = 10 then (idxB a && idxB b) && unB 0 0 n h ot l.length nb ne
 else if k = 6 then l.all valB && unB a b n h ot 0 nb ne
 else if k = 26 then (idxB a && idxB b && ((l.length : Int) == 1) && byteB (l.headD 0)) && unB 0 0 n h ot 0 nb ne
 else if k = 12 ∨ k = 14 then decide ((n : Int) ≤ 4294967295) && unB a b 0 h ot l.length nb ne
 else if k = 13 ∨ k = 15 then unB a b 0 h ot l.length nb ne
 else if k = 23 then unB a b 0 0 ot l.length nb ne
 else if k = 16 then refB a && unB 0 b n h ot l.length nb ne
 else if k = 24 then (((l.length : Int) == 16) && l.all byteB) && unB a b n h ot 0 nb ne
 else if k = 25 then byteB a && unB 0 b n h ot l.length nb ne
 else unB a b n h ot l.length nb ne
noncomputable def insB (op a b : Int) (n h : Nat) (l : List Int) (ot : Bool) (nb ne : Nat) : Bool := knB (lineL op) && okB (lineL op).2.1 op a b n h l ot nb ne
set_option maxHeartbeats 4000000 in
theorem ins_unknown (op : Int) (a b : Int) (n h : Nat) (nl : Nat) (pl pb pe : Option Addr) (cl nb cb ne ce : Nat) (ot : Bool) (w : World)
  (hk : ∀ W, Calls Tryz.prog 233 #[.int .i64 op] W fun e w' => e = .returned (.bool false) ∧ Below W.heap.size W w') :
  Calls Tryz.prog 214 #[.agg #[.int .i64 op, .int .i64 a, .int .i64 b, .int .u64 (n : Nat), .int .u64 (h : Nat), .slice pl nl cl, .slice pb nb cb, .slice pe ne ce, .bool ot]] w fun e w' => e = .returned (.bool false) ∧ Below w.heap.size w w' := by
 have HK := fun W => hid (hk W)
 have HBX := hid ((Below.refl w.heap.size w).alloc (Nat.le_refl _) (.cells #[.int .i64 op, .int .i64 a, .int .i64 b, .int .u64 (n : Nat), .int .u64 (h : Nat), .slice pl nl cl, .slice pb nb cb, .slice pe ne ce, .bool ot] 39))
 clear hk
 go_enter Tryz.func214, Tryz.ntmps214
 go_wp2_with (go_at_call 233; (with_reducible refine (HK _).out.mono ?_); rintro e w1 ⟨rfl, hb1⟩; have HB1 := hid (HBX.out.trans (hb1.mono HBX.out.size)); clear hb1)
 go_ret
 exact ⟨rfl, HB1.out⟩
theorem isInstr_says (op a b : Int) (n h : Nat) (l : List Int) (nl : Nat) (hnl : nl = l.length) (pl pb pe : Option Addr) (cl nb cb ne ce : Nat) (ot : Bool) (B : Nat) (w : World) (hB : B ≤ w.heap.size) (hl : LI B w (.slice pl nl cl) l) (hn : nl < 9223372036854775807) :
  Calls Tryz.prog 214 #[.agg #[.int .i64 op, .int .i64 a, .int .i64 b, .int .u64 (n : Nat), .int .u64 (h : Nat), .slice pl nl cl, .slice pb nb cb, .slice pe ne ce, .bool ot]] w fun e w' => e = .returned (.bool (insB op a b n h l ot nb ne)) ∧ Below w.heap.size w w' := by
 have hK := Known_says op
 have hI := Imm_says op
 obtain ⟨h0, h1, _⟩ := line_ok op
 unfold insB
 generalize knB (lineL op) = kn at *
 generalize (lineL op).2.1 = k at *
 cases kn with
 | false => exact ins_unknown op a b n h nl pl pb pe cl nb cb ne ce ot w hK
 | true =>
  rw [Bool.true_and]
  rcases (show k = 0 ∨ k = 1 ∨ k = 2 ∨ k = 3 ∨ k = 4 ∨ k = 5 ∨ k = 6 ∨ k = 7 ∨ k = 8 ∨ k = 9 ∨ k = 10 ∨ k = 11 ∨ k = 12 ∨ k = 13 ∨ k = 14 ∨ k = 15 ∨ k = 16 ∨ k = 17 ∨ k = 18 ∨ k = 19 ∨ k = 20 ∨ k = 21 ∨ k = 22 ∨ k = 23 ∨ k = 24 ∨ k = 25 ∨ k = 26 by omega) with rfl | rfl | rfl | rfl | rfl | rfl | rfl | rfl | rfl | rfl | rfl | rfl | rfl | rfl | rfl | rfl | rfl | rfl | rfl | rfl | rfl | rfl | rfl | rfl | rfl | rfl | rfl
  ·have := ins_0 op a b n h l nl hnl pl pb pe cl nb cb ne ce ot B w hB hl hn hK hI
   rw [hnl] at this ⊢
   exact this
  ·have := ins_1 op a b n h nl pl pb pe cl nb cb ne ce ot w hK hI
   rw [hnl] at this ⊢
   exact this
  ·have := ins_2 op a b n h l nl hnl pl pb pe cl nb cb ne ce ot B w hB hl hn hK hI
   rw [hnl] at this ⊢
   exact this
  ·have := ins_3 op a b n h l nl hnl pl pb pe cl nb cb ne ce ot B w hB hl hn hK hI
   rw [hnl] at this ⊢
   exact this
  ·have := ins_4 op a b n h l nl hnl pl pb pe cl nb cb ne ce ot B w hB hl hn hK hI
   rw [hnl] at this ⊢
   exact this
  ·have := ins_5 op a b n h l nl hnl pl pb pe cl nb cb ne ce ot B w hB hl hn hK hI
   rw [hnl] at this ⊢
   exact this
  ·have := ins_6 op a b n h l nl hnl pl pb pe cl nb cb ne ce ot B w hB hl hn hK hI
   rw [hnl] at this ⊢
   exact this
  ·have := ins_7 op a b n h l nl hnl pl pb pe cl nb cb ne ce ot B w hB hl hn hK hI
   rw [hnl] at this ⊢
   exact this
  ·have := ins_8 op a b n h l nl hnl pl pb pe cl nb cb ne ce ot B w hB hl hn hK hI
   rw [hnl] at this ⊢
   exact this
  ·have := ins_9 op a b n h l nl hnl pl pb pe cl nb cb ne ce ot B w hB hl hn hK hI
   rw [hnl] at this ⊢
   exact this
  ·have := ins_10 op a b n h l nl hnl pl pb pe cl nb cb ne ce ot B w hB hl hn hK hI
   rw [hnl] at this ⊢
   exact this
  ·have := ins_11 op a b n h l nl hnl pl pb pe cl nb cb ne ce ot B w hB hl hn hK hI
   rw [hnl] at this ⊢
   exact this
  ·have := ins_12 op a b n h l nl hnl pl pb pe cl nb cb ne ce ot B w hB hl hn hK hI
   rw [hnl] at this ⊢
   exact this
  ·have := ins_13 op a b n h l nl hnl pl pb pe cl nb cb ne ce ot B w hB hl hn hK hI
   rw [hnl] at this ⊢
   exact this
  ·have := ins_14 op a b n h l nl hnl pl pb pe cl nb cb ne ce ot B w hB hl hn hK hI
   rw [hnl] at this ⊢
   exact this
  ·have := ins_15 op a b n h l nl hnl pl pb pe cl nb cb ne ce ot B w hB hl hn hK hI
   rw [hnl] at this ⊢
   exact this
  ·have := ins_16 op a b n h l nl hnl pl pb pe cl nb cb ne ce ot B w hB hl hn hK hI
   rw [hnl] at this ⊢
   exact this
  ·have := ins_17 op a b n h l nl hnl pl pb pe cl nb cb ne ce ot B w hB hl hn hK hI
   rw [hnl] at this ⊢
   exact this
  ·have := ins_18 op a b n h l nl hnl pl pb pe cl nb cb ne ce ot B w hB hl hn hK hI
   rw [hnl] at this ⊢
   exact this
  ·have := ins_19 op a b n h l nl hnl pl pb pe cl nb cb ne ce ot B w hB hl hn hK hI
   rw [hnl] at this ⊢
   exact this
  ·have := ins_20 op a b n h l nl hnl pl pb pe cl nb cb ne ce ot B w hB hl hn hK hI
   rw [hnl] at this ⊢
   exact this
  ·have := ins_21 op a b n h l nl hnl pl pb pe cl nb cb ne ce ot B w hB hl hn hK hI
   rw [hnl] at this ⊢
   exact this
  ·have := ins_22 op a b n h l nl hnl pl pb pe cl nb cb ne ce ot B w hB hl hn hK hI
   rw [hnl] at this ⊢
   exact this
  ·have := ins_23 op a b n h l nl hnl pl pb pe cl nb cb ne ce ot B w hB hl hn hK hI
   rw [hnl] at this ⊢
   exact this
  ·have := ins_24 op a b n h l nl hnl pl pb pe cl nb cb ne ce ot B w hB hl hn hK hI
   rw [hnl] at this ⊢
   exact this
  ·have := ins_25 op a b n h l nl hnl pl pb pe cl nb cb ne ce ot B w hB hl hn hK hI
   rw [hnl] at this ⊢
   exact this
  ·have := ins_26 op a b n h l nl hnl pl pb pe cl nb cb ne ce ot B w hB hl hK hI
   rw [hnl] at this ⊢
   exact this
end Go.Proofs.YtjgeedgphcjhoaaGreat
namespace Go.Proofs.YtjgeedgphcjhoaaGreat
open Go.RowKit
theorem KP.set (w : World) (g k : Nat) (v : Value) : KP (some g) w (w.setCell ⟨g, k, none⟩ v) := ⟨rfl, rfl, rfl, by simp [World.setCell], fun i hi hc => Below.heap_setCell _ _ _ _ (fun e => hc (by rw [e]))⟩
noncomputable def codeSt (_ : Unit) (d op a b : Int) (n h : Nat) (l : List Int) (ot : Bool) (body els : Fo) : Bool × Unit := (decide (d ≤ 500) && insB op a b n h l ot body.len els.len, ())
noncomputable def codeB (f : Fo) : Bool := (evF codeSt f 1 ()).1
set_option maxHeartbeats 2000000 in
theorem asks_code (B : Nat) : Asked 213 #[] (fun (_ : Unit) _ => True) codeSt B none := by
 intro s d op a b n h l ot body els vl vb ve w hd hB hc hl hbo hel hs
 obtain ⟨pl, cl, rfl, hq, _⟩ := id hl
 obtain ⟨pb, cb, _, _, rfl, _, _⟩ := hbo
 obtain ⟨pe, ce, _, _, rfl, _, _⟩ := hel
 show Calls Tryz.prog 213 #[.agg #[.int .i64 op, .int .i64 a, .int .i64 b, .int .u64 (n : Nat), .int .u64 (h : Nat), .slice pl l.length cl, .slice pb body.len cb, .slice pe els.len ce, .bool ot], .int .i64 d] w fun e w' => e = .returned (.bool (decide (d ≤ 500) && insB op a b n h l ot body.len els.len)) ∧ True ∧ KP none w w'
 have HI : ∀ W, Below w.heap.size w W → Hid (Calls Tryz.prog 214 #[.agg #[.int .i64 op, .int .i64 a, .int .i64 b, .int .u64 (n : Nat), .int .u64 (h : Nat), .slice pl l.length cl, .slice pb body.len cb, .slice pe els.len ce, .bool ot]] W fun e w' => e = .returned (.bool (insB op a b n h l ot body.len els.len)) ∧ Below W.heap.size W w') := fun W hW => isInstr_says op a b n h l l.length rfl pl pb pe cl body.len cb els.len ce ot B W (Nat.le_trans hB hW.size) (hl.below (hW.mono hB)) hq
 generalize insB op a b n h l ot body.len els.len = u at *
 generalize l.length = nl at *
 generalize body.len = nb at *
 generalize els.len = ne at *
 have HBX := hid ((Below.refl w.heap.size w).alloc (Nat.le_refl _) (.cells #[.int .i64 op, .int .i64 a, .int .i64 b, .int .u64 (n : Nat), .int .u64 (h : Nat), .slice pl nl cl, .slice pb nb cb, .slice pe ne ce, .bool ot] 39))
 obtain ⟨b5, d5⟩ : ∃ x, decide (d ≤ 500) = x := ⟨_, rfl⟩
 rw [d5]
 clear hl hq hd hs hB hc
 cases b5 with
 | false =>
  go_enter Tryz.func213, Tryz.ntmps213
  go_wp2
  go_ret
  exact ⟨rfl, trivial, KP.of HBX.out⟩
 | true =>
  go_enter Tryz.func213, Tryz.ntmps213
  go_wp2_with (go_at_call 214; (with_reducible refine (HI _ HBX.out).out.mono ?_); rintro e w1 ⟨rfl, hb1⟩; have HB1 := hid (HBX.out.trans (hb1.mono HBX.out.size)); clear hb1)
  go_ret
  exact ⟨by simp, trivial, KP.of HB1.out⟩
theorem isCode_says (f : Fo) (v : Value) (B : Nat) (w : World) (hn : f.cnt < 9223372036854775806) (hB : B ≤ w.heap.size) (hs : SA B w v f) : Calls Tryz.prog 148 #[v] w fun e w' => e = .returned (.bool (codeB f)) ∧ Below w.heap.size w w' := by
 have H := hid (every_says 213 #[] (fun _ _ => rfl) (fun (_ : Unit) _ => True) codeSt B none (fun k e => by cases e) (fun _ _ _ _ _ => trivial) (asks_code B) f () v w hn hB (fun k e => by cases e) hs trivial)
 unfold codeB
 generalize (evF codeSt f 1 ()).1 = r at *
 clear hs hn
 go_enter Tryz.func148, Tryz.ntmps148
 go_wp2_with (go_at_call 140; (with_reducible refine H.out.mono ?_); rintro e w1 ⟨rfl, _, hk1⟩)
 go_ret
 exact ⟨rfl, hk1.pure⟩
end Go.Proofs.YtjgeedgphcjhoaaGreat
namespace Go.Proofs.YtjgeedgphcjhoaaGreat
open Go.RowKit
theorem all_nil_22 (k : Nat) (p : Option Addr) (c : Nat) (w : World) : Calls Tryz.prog 30 #[.slice p 0 c, .func (.func k) #[] #[]] w fun e w' => e = .returned (.bool true) ∧ w = w' := by
 go_enter Tryz.func30, Tryz.ntmps30
 go_wp2
 go_loop [9] (fun vi => vi = .int .i64 0) (fun _ => 0)
 case atStart => rfl
 case round =>
  subst hrel
  go_wp2
  go_ret
  exact ⟨rfl, rfl⟩
theorem all_nil_24 (k : Nat) (p : Option Addr) (c : Nat) (w : World) : Calls Tryz.prog 32 #[.slice p 0 c, .func (.func k) #[] #[]] w fun e w' => e = .returned (.bool true) ∧ w = w' := by
 go_enter Tryz.func32, Tryz.ntmps32
 go_wp2
 go_loop [9] (fun vi => vi = .int .i64 0) (fun _ => 0)
 case atStart => rfl
 case round =>
  subst hrel
  go_wp2
  go_ret
  exact ⟨rfl, rfl⟩
theorem all_nil_26 (k : Nat) (p : Option Addr) (c : Nat) (w : World) : Calls Tryz.prog 34 #[.slice p 0 c, .func (.func k) #[] #[]] w fun e w' => e = .returned (.bool true) ∧ w = w' := by
 go_enter Tryz.func34, Tryz.ntmps34
 go_wp2
 go_loop [9] (fun vi => vi = .int .i64 0) (fun _ => 0)
 case atStart => rfl
 case round =>
  subst hrel
  go_wp2
  go_ret
  exact ⟨rfl, rfl⟩
theorem all_nil_28 (k : Nat) (p : Option Addr) (c : Nat) (w : World) : Calls Tryz.prog 36 #[.slice p 0 c, .func (.func k) #[] #[]] w fun e w' => e = .returned (.bool true) ∧ w = w' := by
 go_enter Tryz.func36, Tryz.ntmps36
 go_wp2
 go_loop [9] (fun vi => vi = .int .i64 0) (fun _ => 0)
 case atStart => rfl
 case round =>
  subst hrel
  go_wp2
  go_ret
  exact ⟨rfl, rfl⟩
theorem all_nil_30 (k : Nat) (p : Option Addr) (c : Nat) (w : World) : Calls Tryz.prog 38 #[.slice p 0 c, .func (.func k) #[] #[]] w fun e w' => e = .returned (.bool true) ∧ w = w' := by
 go_enter Tryz.func38, Tryz.ntmps38
 go_wp2
 go_loop [9] (fun vi => vi = .int .i64 0) (fun _ => 0)
 case atStart => rfl
 case round =>
  subst hrel
  go_wp2
  go_ret
  exact ⟨rfl, rfl⟩
theorem all_nil_32 (k : Nat) (p : Option Addr) (c : Nat) (w : World) : Calls Tryz.prog 40 #[.slice p 0 c, .func (.func k) #[] #[]] w fun e w' => e = .returned (.bool true) ∧ w = w' := by
 go_enter Tryz.func40, Tryz.ntmps40
 go_wp2
 go_loop [9] (fun vi => vi = .int .i64 0) (fun _ => 0)
 case atStart => rfl
 case round =>
  subst hrel
  go_wp2
  go_ret
  exact ⟨rfl, rfl⟩
theorem all_nil_34 (k : Nat) (p : Option Addr) (c : Nat) (w : World) : Calls Tryz.prog 42 #[.slice p 0 c, .func (.func k) #[] #[]] w fun e w' => e = .returned (.bool true) ∧ w = w' := by
 go_enter Tryz.func42, Tryz.ntmps42
 go_wp2
 go_loop [9] (fun vi => vi = .int .i64 0) (fun _ => 0)
 case atStart => rfl
 case round =>
  subst hrel
  go_wp2
  go_ret
  exact ⟨rfl, rfl⟩
theorem all_nil_37 (k : Nat) (p : Option Addr) (c : Nat) (w : World) : Calls Tryz.prog 45 #[.slice p 0 c, .func (.func k) #[] #[]] w fun e w' => e = .returned (.bool true) ∧ w = w' := by
 go_enter Tryz.func45, Tryz.ntmps45
 go_wp2
 go_loop [9] (fun vi => vi = .int .i64 0) (fun _ => 0)
 case atStart => rfl
 case round =>
  subst hrel
  go_wp2
  go_ret
  exact ⟨rfl, rfl⟩
theorem all_nil_39 (k : Nat) (p : Option Addr) (c : Nat) (w : World) : Calls Tryz.prog 47 #[.slice p 0 c, .func (.func k) #[] #[]] w fun e w' => e = .returned (.bool true) ∧ w = w' := by
 go_enter Tryz.func47, Tryz.ntmps47
 go_wp2
 go_loop [9] (fun vi => vi = .int .i64 0) (fun _ => 0)
 case atStart => rfl
 case round =>
  subst hrel
  go_wp2
  go_ret
  exact ⟨rfl, rfl⟩
end Go.Proofs.YtjgeedgphcjhoaaGreat
namespace Go.Proofs.YtjgeedgphcjhoaaGreat
open Go.RowKit
abbrev T3 := Option Addr × Nat × Nat
def n3 : T3 := (none, 0, 0)
/-- An instruction without a list but for what is in it. -/
def InsAt (W : World) (r : Nat) (op : Int) (vb : Value) : Prop :=
 W.cell? ⟨r, 0, none⟩ = some (.int .i64 op) ∧ W.cell? ⟨r, 1, none⟩ = some (.int .i64 0) ∧ W.cell? ⟨r, 2, none⟩ = some (.int .i64 0) ∧ W.cell? ⟨r, 3, none⟩ = some (.int .u64 0) ∧ W.cell? ⟨r, 4, none⟩ = some (.int .u64 0) ∧
 W.cell? ⟨r, 5, none⟩ = some (.slice none 0 0) ∧ W.cell? ⟨r, 6, none⟩ = some vb ∧ W.cell? ⟨r, 7, none⟩ = some (.slice none 0 0) ∧ W.cell? ⟨r, 8, none⟩ = some (.bool false)
theorem InsAt.below {W W' : World} {r B : Nat} {op : Int} {vb : Value} (h : InsAt W r op vb) (hb : Below B W W') (hr : r < B) : InsAt W' r op vb := by
 have hc : ∀ k, W'.cell? ⟨r, k, none⟩ = W.cell? ⟨r, k, none⟩ := fun k => hb.cell (p := ⟨r, k, none⟩) hr
 unfold InsAt at h ⊢
 simp only [hc]
 exact h
end Go.Proofs.YtjgeedgphcjhoaaGreat
namespace Go.Proofs.YtjgeedgphcjhoaaGreat
open Go.RowKit
def insFo (op : Int) (body : Fo) : Fo := .cons op 0 0 0 0 [] false body .nil .nil
theorem SA_ins {B r c : Nat} {w : World} {op : Int} {vb : Value} {body : Fo} (h : InsAt w r op vb) (hr : r < B) (hb : SA B w vb body) : SA B w (.slice (some ⟨r, 0, none⟩) 1 c) (insFo op body) := by
 obtain ⟨h0, h1, h2, h3, h4, h5, h6, h7, h8⟩ := h
 refine ⟨some ⟨r, 0, none⟩, c, r, 0, rfl, fun _ => rfl, hr, ⟨.slice none 0 0, vb, .slice none 0 0, h0, h1, h2, h3, h4, h5, h6, h7, h8, LI.nil _ _ _ _, ?_, ?_⟩, trivial⟩
 ·obtain ⟨p, c', g', o', e, e2, e3⟩ := hb
  exact ⟨p, c', g', o', e, e2, e3⟩
 ·exact ⟨none, 0, 0, 0, rfl, fun h => absurd rfl h, trivial⟩
/-- The example, and its like: a type, a function, what is in it. -/
structure Ex (w : World) (gt gf gb : Nat) (l : List Int) (p : Option Addr) (n c : Nat) (f : Fo) : Prop where
 t : gt < w.heap.size
 fn : gf < w.heap.size
 n1 : n = l.length
 t0 : w.cell? ⟨gt, 0, none⟩ = some (.slice p n c)
 t1 : w.cell? ⟨gt, 1, none⟩ = some (.slice none 0 0)
 l0 : LI w.heap.size w (.slice p n c) l
 f0 : w.cell? ⟨gf, 0, none⟩ = some (.int .i64 0)
 f1 : w.cell? ⟨gf, 1, none⟩ = some (.slice none 0 0)
 f2 : w.cell? ⟨gf, 2, none⟩ = some (.slice (some ⟨gb, 0, none⟩) 1 1)
 s : SA w.heap.size w (.slice (some ⟨gb, 0, none⟩) 1 1) f
theorem Ex.below {w W : World} {gt gf gb : Nat} {l : List Int} {p : Option Addr} {n c : Nat} {f : Fo} (h : Ex w gt gf gb l p n c f) (hb : Below w.heap.size w W) : Ex W gt gf gb l p n c f where
 t := Nat.lt_of_lt_of_le h.t hb.size
 fn := Nat.lt_of_lt_of_le h.fn hb.size
 n1 := h.n1
 t0 := (hb.cell (p := ⟨gt, 0, none⟩) h.t).trans h.t0
 t1 := (hb.cell (p := ⟨gt, 1, none⟩) h.t).trans h.t1
 l0 := (h.l0.below hb).mono hb.size
 f0 := (hb.cell (p := ⟨gf, 0, none⟩) h.fn).trans h.f0
 f1 := (hb.cell (p := ⟨gf, 1, none⟩) h.fn).trans h.f1
 f2 := (hb.cell (p := ⟨gf, 2, none⟩) h.fn).trans h.f2
 s := SA.mono (SA.below h.s hb) hb.size
end Go.Proofs.YtjgeedgphcjhoaaGreat
namespace Go.Proofs.YtjgeedgphcjhoaaGreat
open Go.RowKit
theorem and_i64_le (a : Int) (m : Nat) (hm : m < 1000) : ∃ K : Nat, K ≤ m ∧ bits .and .i64 a (m : Int) = (K : Int) := by
 refine ⟨(BitVec.ofInt 64 a).toNat &&& m, Nat.and_le_right, ?_⟩
 have e2 : BitVec.toNat (BitVec.ofInt 64 (m : Int)) = m := by
  rw [BitVec.toNat_ofInt]; omega
 have hle : (BitVec.ofInt 64 a).toNat &&& m ≤ m := Nat.and_le_right
 show IntKind.i64.wrap ((BitVec.ofInt 64 a &&& BitVec.ofInt 64 (m : Int)).toNat : Int) = _
 rw [BitVec.toNat_and, e2, IntKind.wrap_i64]
 generalize (BitVec.ofInt 64 a).toNat &&& m = q at *
 omega
end Go.Proofs.YtjgeedgphcjhoaaGreat
namespace Go.Proofs.YtjgeedgphcjhoaaGreat
open Go.RowKit
theorem ins_blk (op : Int) (h : op = 2 ∨ op = 3) : insB op 0 0 0 0 [] false 1 0 = true ∧ insB op 0 0 0 0 [] true 0 0 = false ∧ ((lineL op).2.1 != 17 && (lineL op).2.1 != 18) = true := by
 rcases h with rfl | rfl
 ·exact ⟨by kernel_rfl, by kernel_rfl, by kernel_rfl⟩
 ·exact ⟨by kernel_rfl, by kernel_rfl, by kernel_rfl⟩
end Go.Proofs.YtjgeedgphcjhoaaGreat
namespace Go.Proofs.YtjgeedgphcjhoaaGreat
open Go.RowKit
theorem ev_ins (st : Unit → Int → Int → Int → Int → Nat → Nat → List Int → Bool → Fo → Fo → Bool × Unit) (op : Int) (b : Fo) (d : Int) : (evF st (insFo op b) d ()).1 = ((st () d op 0 0 0 0 [] false b .nil).1 && (evF st b (d + 1) ()).1) := by
 rcases h1 : st () d op 0 0 0 0 [] false b .nil with ⟨b1, ⟨⟩⟩
 rcases h2 : evF st b (d + 1) () with ⟨b2, ⟨⟩⟩
 have := evF_cons st op 0 0 0 0 [] false b .nil .nil d () b1 () h1 b2 () h2 true () rfl
 show (evF st (.cons op 0 0 0 0 [] false b .nil .nil) d ()).1 = _
 rw [this]
 cases b1 <;> cases b2 <;> rfl
theorem nop_ok : insB 1 0 0 0 0 [] false 0 0 = true := by kernel_rfl
end Go.Proofs.YtjgeedgphcjhoaaGreat
