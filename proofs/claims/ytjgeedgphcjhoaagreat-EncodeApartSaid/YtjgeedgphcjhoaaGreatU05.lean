/-
  Ins4, Ins5, Ins6: merged, what the law does not reach left out (each text says what it holds where it lies in wip). No condition.
-/
import Derived.Test.YtjgeedgphcjhoaaGreatU04
import Derived.Test.YtjgeedgphcjhoaaGreatU01
set_option linter.unusedSimpArgs false
set_option linter.unusedVariables false
set_option maxRecDepth 100000
namespace Go.Proofs.YtjgeedgphcjhoaaGreat
open Go.RowKit
set_option maxHeartbeats 4000000 in
theorem ins_12 (K : Int) (hK : K = 12 ∨ K = 14) (op a b : Int) (n h : Nat) (l : List Int) (nl : Nat) (hnl : nl = l.length) (pl pb pe : Option Addr) (cl nb cb ne ce : Nat) (ot : Bool) (B : Nat) (w : World) (hB : B ≤ w.heap.size) (hl : LI B w (.slice pl nl cl) l) (hn : nl < 9223372036854775807)
  (hk : ∀ W,Calls Tryz.prog 233 #[.int .i64 op] W fun e w' => e = .returned (.bool true) ∧ Below W.heap.size W w') (hi : ∀ W,Calls Tryz.prog 152 #[.int .i64 op] W fun e w' => e = .returned (.int .i64 K) ∧ Below W.heap.size W w') :
  Calls Tryz.prog 214 #[.agg #[.int .i64 op,.int .i64 a,.int .i64 b,.int .u64 n,.int .u64 h,.slice pl nl cl,.slice pb nb cb,.slice pe ne ce,.bool ot]] w fun e w' => e = .returned (.bool ((decide ((n : Int) ≤ 4294967295)) && unB a b 0 h ot nl nb ne)) ∧ Below w.heap.size w w' := by
 rcases hK with rfl | rfl
 all_goals
  have HK := fun W => hid (hk W)
  have HI := fun W => hid (hi W)
  have HU := fun W => hid (isUnused_says op a b 0 h pl pb pe nl cl nb cb ne ce ot W)
  generalize unB a b 0 h ot nl nb ne = u at *
  try simp only [show ((0 : Nat) : Int) = 0 from rfl] at HU
  have HBX := hid ((Below.refl w.heap.size w).alloc (Nat.le_refl _) (.cells #[.int .i64 op,.int .i64 a,.int .i64 b,.int .u64 n,.int .u64 h,.slice pl nl cl,.slice pb nb cb,.slice pe ne ce,.bool ot] 39))
  have HX := hid (CA.new w #[.int .i64 op,.int .i64 a,.int .i64 b,.int .u64 n,.int .u64 h,.slice pl nl cl,.slice pb nb cb,.slice pe ne ce,.bool ot] 39)
  obtain ⟨nn,dn⟩ : ∃ x,decide ((n : Int) ≤ 4294967295) = x := ⟨_,rfl⟩
  rw [dn]
  clear hk hi hl hnl hn
  cases nn with
  | false =>
   go_enter Tryz.func214,Tryz.ntmps214
   go_upto_region 50 with (first
    | (go_at_call 233; (with_reducible refine (HK _).out.mono ?_); rintro e w1 ⟨rfl,hb1⟩; have HB1 := hid (HBX.out.trans (hb1.mono HBX.out.size)); have HX1 := hid (HX.out.below hb1 HX.out.lt); have z0 := HX1.out.at (k := 0) (v := .int .i64 op) rfl; clear hb1)
    | (go_at_call 152; (with_reducible refine (HI _).out.mono ?_); rintro e w2 ⟨rfl,hb2⟩; have HB2 := hid (HB1.out.trans (hb2.mono HB1.out.size)); have HX2 := hid (HX1.out.below hb2 HX1.out.lt); obtain ⟨y0,y1,y2,y3,y4,y5,y6,y7,y8⟩ := ca9 HX2.out; have f3 := HX2.out.free 3; clear hb2))
   have HX3 := hid (HX2.out.set (k := 3) (.int .u64 0))
   have HB3 := hid (HB2.out.setCell (p := ⟨w.heap.size,3,none⟩) (Nat.le_refl _) (.int .u64 0))
   clear y0 y1 y2 y3 y4 y5 y6 y7 y8 f3
   generalize (w2.setCell ⟨w.heap.size,3,none⟩ (.int .u64 0)) = W3 at *
   go_wp2
   go_ret
   exact ⟨by simp,HB3.out⟩
  | true =>
   go_enter Tryz.func214,Tryz.ntmps214
   go_upto_region 50 with (first
    | (go_at_call 233; (with_reducible refine (HK _).out.mono ?_); rintro e w1 ⟨rfl,hb1⟩; have HB1 := hid (HBX.out.trans (hb1.mono HBX.out.size)); have HX1 := hid (HX.out.below hb1 HX.out.lt); have z0 := HX1.out.at (k := 0) (v := .int .i64 op) rfl; clear hb1)
    | (go_at_call 152; (with_reducible refine (HI _).out.mono ?_); rintro e w2 ⟨rfl,hb2⟩; have HB2 := hid (HB1.out.trans (hb2.mono HB1.out.size)); have HX2 := hid (HX1.out.below hb2 HX1.out.lt); obtain ⟨y0,y1,y2,y3,y4,y5,y6,y7,y8⟩ := ca9 HX2.out; have f3 := HX2.out.free 3; clear hb2))
   have HX3 := hid (HX2.out.set (k := 3) (.int .u64 0))
   have HB3 := hid (HB2.out.setCell (p := ⟨w.heap.size,3,none⟩) (Nat.le_refl _) (.int .u64 0))
   clear y0 y1 y2 y3 y4 y5 y6 y7 y8 f3
   generalize (w2.setCell ⟨w.heap.size,3,none⟩ (.int .u64 0)) = W3 at *
   obtain ⟨x0,x1,x2,x3,x4,x5,x6,x7,x8⟩ := ca9 HX3.out
   go_wp2_with (go_at_call 236; (with_reducible refine (HU _).out.mono ?_); rintro e w4 ⟨rfl,hb4⟩)
   go_ret
   exact ⟨by simp,HB3.out.trans (hb4.mono HB3.out.size)⟩
set_option maxHeartbeats 4000000 in
theorem ins_13 (K : Int) (hK : K = 13 ∨ K = 15) (op a b : Int) (n h : Nat) (l : List Int) (nl : Nat) (hnl : nl = l.length) (pl pb pe : Option Addr) (cl nb cb ne ce : Nat) (ot : Bool) (B : Nat) (w : World) (hB : B ≤ w.heap.size) (hl : LI B w (.slice pl nl cl) l) (hn : nl < 9223372036854775807)
  (hk : ∀ W,Calls Tryz.prog 233 #[.int .i64 op] W fun e w' => e = .returned (.bool true) ∧ Below W.heap.size W w') (hi : ∀ W,Calls Tryz.prog 152 #[.int .i64 op] W fun e w' => e = .returned (.int .i64 K) ∧ Below W.heap.size W w') :
  Calls Tryz.prog 214 #[.agg #[.int .i64 op,.int .i64 a,.int .i64 b,.int .u64 n,.int .u64 h,.slice pl nl cl,.slice pb nb cb,.slice pe ne ce,.bool ot]] w fun e w' => e = .returned (.bool (unB a b 0 h ot nl nb ne)) ∧ Below w.heap.size w w' := by
 rcases hK with rfl | rfl
 all_goals
  have HK := fun W => hid (hk W)
  have HI := fun W => hid (hi W)
  have HU := fun W => hid (isUnused_says op a b 0 h pl pb pe nl cl nb cb ne ce ot W)
  generalize unB a b 0 h ot nl nb ne = u at *
  try simp only [show ((0 : Nat) : Int) = 0 from rfl] at HU
  have HBX := hid ((Below.refl w.heap.size w).alloc (Nat.le_refl _) (.cells #[.int .i64 op,.int .i64 a,.int .i64 b,.int .u64 n,.int .u64 h,.slice pl nl cl,.slice pb nb cb,.slice pe ne ce,.bool ot] 39))
  have HX := hid (CA.new w #[.int .i64 op,.int .i64 a,.int .i64 b,.int .u64 n,.int .u64 h,.slice pl nl cl,.slice pb nb cb,.slice pe ne ce,.bool ot] 39)
  clear hk hi hl hnl hn
  go_enter Tryz.func214,Tryz.ntmps214
  go_upto_region 50 with (first
   | (go_at_call 233; (with_reducible refine (HK _).out.mono ?_); rintro e w1 ⟨rfl,hb1⟩; have HB1 := hid (HBX.out.trans (hb1.mono HBX.out.size)); have HX1 := hid (HX.out.below hb1 HX.out.lt); have z0 := HX1.out.at (k := 0) (v := .int .i64 op) rfl; clear hb1)
   | (go_at_call 152; (with_reducible refine (HI _).out.mono ?_); rintro e w2 ⟨rfl,hb2⟩; have HB2 := hid (HB1.out.trans (hb2.mono HB1.out.size)); have HX2 := hid (HX1.out.below hb2 HX1.out.lt); obtain ⟨y0,y1,y2,y3,y4,y5,y6,y7,y8⟩ := ca9 HX2.out; have f3 := HX2.out.free 3; clear hb2))
  have HX3 := hid (HX2.out.set (k := 3) (.int .u64 0))
  have HB3 := hid (HB2.out.setCell (p := ⟨w.heap.size,3,none⟩) (Nat.le_refl _) (.int .u64 0))
  clear y0 y1 y2 y3 y4 y5 y6 y7 y8 f3
  generalize (w2.setCell ⟨w.heap.size,3,none⟩ (.int .u64 0)) = W3 at *
  obtain ⟨x0,x1,x2,x3,x4,x5,x6,x7,x8⟩ := ca9 HX3.out
  go_wp2_with (go_at_call 236; (with_reducible refine (HU _).out.mono ?_); rintro e w4 ⟨rfl,hb4⟩)
  go_ret
  exact ⟨by simp,HB3.out.trans (hb4.mono HB3.out.size)⟩
set_option maxHeartbeats 4000000 in
theorem ins_23 (op a b : Int) (n h : Nat) (l : List Int) (nl : Nat) (hnl : nl = l.length) (pl pb pe : Option Addr) (cl nb cb ne ce : Nat) (ot : Bool) (B : Nat) (w : World) (hB : B ≤ w.heap.size) (hl : LI B w (.slice pl nl cl) l) (hn : nl < 9223372036854775807)
  (hk : ∀ W,Calls Tryz.prog 233 #[.int .i64 op] W fun e w' => e = .returned (.bool true) ∧ Below W.heap.size W w') (hi : ∀ W,Calls Tryz.prog 152 #[.int .i64 op] W fun e w' => e = .returned (.int .i64 23) ∧ Below W.heap.size W w') :
  Calls Tryz.prog 214 #[.agg #[.int .i64 op,.int .i64 a,.int .i64 b,.int .u64 n,.int .u64 h,.slice pl nl cl,.slice pb nb cb,.slice pe ne ce,.bool ot]] w fun e w' => e = .returned (.bool (unB a b 0 0 ot nl nb ne)) ∧ Below w.heap.size w w' := by
 have HK := fun W => hid (hk W)
 have HI := fun W => hid (hi W)
 have HU := fun W => hid (isUnused_says op a b 0 0 pl pb pe nl cl nb cb ne ce ot W)
 generalize unB a b 0 0 ot nl nb ne = u at *
 try simp only [show ((0 : Nat) : Int) = 0 from rfl] at HU
 have HBX := hid ((Below.refl w.heap.size w).alloc (Nat.le_refl _) (.cells #[.int .i64 op,.int .i64 a,.int .i64 b,.int .u64 n,.int .u64 h,.slice pl nl cl,.slice pb nb cb,.slice pe ne ce,.bool ot] 39))
 have HX := hid (CA.new w #[.int .i64 op,.int .i64 a,.int .i64 b,.int .u64 n,.int .u64 h,.slice pl nl cl,.slice pb nb cb,.slice pe ne ce,.bool ot] 39)
 clear hk hi hl hnl hn
 go_enter Tryz.func214,Tryz.ntmps214
 go_upto_region 50 with (first
  | (go_at_call 233; (with_reducible refine (HK _).out.mono ?_); rintro e w1 ⟨rfl,hb1⟩; have HB1 := hid (HBX.out.trans (hb1.mono HBX.out.size)); have HX1 := hid (HX.out.below hb1 HX.out.lt); have z0 := HX1.out.at (k := 0) (v := .int .i64 op) rfl; clear hb1)
  | (go_at_call 152; (with_reducible refine (HI _).out.mono ?_); rintro e w2 ⟨rfl,hb2⟩; have HB2 := hid (HB1.out.trans (hb2.mono HB1.out.size)); have HX2 := hid (HX1.out.below hb2 HX1.out.lt); obtain ⟨y0,y1,y2,y3,y4,y5,y6,y7,y8⟩ := ca9 HX2.out; have f3 := HX2.out.free 3; have f4 := HX2.out.free 4; clear hb2))
 have HX3 := hid ((HX2.out.set (k := 3) (.int .u64 0)).set (k := 4) (.int .u64 0))
 have HB3 := hid ((HB2.out.setCell (p := ⟨w.heap.size,3,none⟩) (Nat.le_refl _) (.int .u64 0)).setCell (p := ⟨w.heap.size,4,none⟩) (Nat.le_refl _) (.int .u64 0))
 clear y0 y1 y2 y3 y4 y5 y6 y7 y8 f3 f4
 generalize ((w2.setCell ⟨w.heap.size,3,none⟩ (.int .u64 0)).setCell ⟨w.heap.size,4,none⟩ (.int .u64 0)) = W3 at *
 obtain ⟨x0,x1,x2,x3,x4,x5,x6,x7,x8⟩ := ca9 HX3.out
 go_wp2_with (go_at_call 236; (with_reducible refine (HU _).out.mono ?_); rintro e w4 ⟨rfl,hb4⟩)
 go_ret
 exact ⟨by simp,HB3.out.trans (hb4.mono HB3.out.size)⟩
end Go.Proofs.YtjgeedgphcjhoaaGreat
namespace Go.Proofs.YtjgeedgphcjhoaaGreat
open Go.RowKit
set_option maxHeartbeats 4000000 in
theorem ins_3 (op a b : Int) (n h : Nat) (l : List Int) (nl : Nat) (hnl : nl = l.length) (pl pb pe : Option Addr) (cl nb cb ne ce : Nat) (ot : Bool) (B : Nat) (w : World) (hB : B ≤ w.heap.size) (hl : LI B w (.slice pl nl cl) l) (hn : nl < 9223372036854775807)
  (hk : ∀ W,Calls Tryz.prog 233 #[.int .i64 op] W fun e w' => e = .returned (.bool true) ∧ Below W.heap.size W w') (hi : ∀ W,Calls Tryz.prog 152 #[.int .i64 op] W fun e w' => e = .returned (.int .i64 3) ∧ Below W.heap.size W w') :
  Calls Tryz.prog 214 #[.agg #[.int .i64 op,.int .i64 a,.int .i64 b,.int .u64 n,.int .u64 h,.slice pl nl cl,.slice pb nb cb,.slice pe ne ce,.bool ot]] w fun e w' => e = .returned (.bool ((idxB a && l.all idxB) && unB 0 b n h ot 0 nb ne)) ∧ Below w.heap.size w w' := by
 have HK := fun W => hid (hk W)
 have HI := fun W => hid (hi W)
 have HU := fun W => hid (isUnused_says op 0 b n h none pb pe 0 0 nb cb ne ce ot W)
 generalize unB 0 b n h ot 0 nb ne = u at *
 try simp only [show ((0 : Nat) : Int) = 0 from rfl] at HU
 have HBX := hid ((Below.refl w.heap.size w).alloc (Nat.le_refl _) (.cells #[.int .i64 op,.int .i64 a,.int .i64 b,.int .u64 n,.int .u64 h,.slice pl nl cl,.slice pb nb cb,.slice pe ne ce,.bool ot] 39))
 have HX := hid (CA.new w #[.int .i64 op,.int .i64 a,.int .i64 b,.int .u64 n,.int .u64 h,.slice pl nl cl,.slice pb nb cb,.slice pe ne ce,.bool ot] 39)
 have HIA := fun W => hid (isIndex_says a W)
 generalize idxB a = ia at *
 have HLX := fun W (hW : Below B w W) => hid (all_int 145 (fun _ _ => rfl) idxB isIndex_says l (.slice pl nl cl) B W (hl.below hW) (Nat.le_trans hB hW.size) (by omega))
 generalize l.all idxB = lx at *
 clear hk hi hl hnl hn
 cases ia with
 | false =>
  go_enter Tryz.func214,Tryz.ntmps214
  go_upto_region 50 with (first
   | (go_at_call 233; (with_reducible refine (HK _).out.mono ?_); rintro e w1 ⟨rfl,hb1⟩; have HB1 := hid (HBX.out.trans (hb1.mono HBX.out.size)); have HX1 := hid (HX.out.below hb1 HX.out.lt); have z0 := HX1.out.at (k := 0) (v := .int .i64 op) rfl; clear hb1)
   | (go_at_call 152; (with_reducible refine (HI _).out.mono ?_); rintro e w2 ⟨rfl,hb2⟩; have HB2 := hid (HB1.out.trans (hb2.mono HB1.out.size)); have HX2 := hid (HX1.out.below hb2 HX1.out.lt); obtain ⟨y0,y1,y2,y3,y4,y5,y6,y7,y8⟩ := ca9 HX2.out; have f1 := HX2.out.free 1; have f5 := HX2.out.free 5; clear hb2)
   | (go_at_call 145; (with_reducible refine (HIA _).out.mono ?_); rintro e w3 ⟨rfl,rfl⟩)
   | (go_at_call 143; (with_reducible refine (HLX _ (HB2.out.mono hB)).out.mono ?_); rintro e w3 ⟨rfl,rfl⟩))
  have HX3 := hid ((HX2.out.set (k := 1) (.int .i64 0)).set (k := 5) (.slice none 0 0))
  have HB3 := hid ((HB2.out.setCell (p := ⟨w.heap.size,1,none⟩) (Nat.le_refl _) (.int .i64 0)).setCell (p := ⟨w.heap.size,5,none⟩) (Nat.le_refl _) (.slice none 0 0))
  clear y0 y1 y2 y3 y4 y5 y6 y7 y8 f1 f5
  generalize ((w2.setCell ⟨w.heap.size,1,none⟩ (.int .i64 0)).setCell ⟨w.heap.size,5,none⟩ (.slice none 0 0)) = W3 at *
  go_wp2
  go_ret
  exact ⟨by simp,HB3.out⟩
 | true =>
  cases lx with
  | false =>
   go_enter Tryz.func214,Tryz.ntmps214
   go_upto_region 50 with (first
    | (go_at_call 233; (with_reducible refine (HK _).out.mono ?_); rintro e w1 ⟨rfl,hb1⟩; have HB1 := hid (HBX.out.trans (hb1.mono HBX.out.size)); have HX1 := hid (HX.out.below hb1 HX.out.lt); have z0 := HX1.out.at (k := 0) (v := .int .i64 op) rfl; clear hb1)
    | (go_at_call 152; (with_reducible refine (HI _).out.mono ?_); rintro e w2 ⟨rfl,hb2⟩; have HB2 := hid (HB1.out.trans (hb2.mono HB1.out.size)); have HX2 := hid (HX1.out.below hb2 HX1.out.lt); obtain ⟨y0,y1,y2,y3,y4,y5,y6,y7,y8⟩ := ca9 HX2.out; have f1 := HX2.out.free 1; have f5 := HX2.out.free 5; clear hb2)
    | (go_at_call 145; (with_reducible refine (HIA _).out.mono ?_); rintro e w3 ⟨rfl,rfl⟩)
    | (go_at_call 143; (with_reducible refine (HLX _ (HB2.out.mono hB)).out.mono ?_); rintro e w3 ⟨rfl,rfl⟩))
   have HX3 := hid ((HX2.out.set (k := 1) (.int .i64 0)).set (k := 5) (.slice none 0 0))
   have HB3 := hid ((HB2.out.setCell (p := ⟨w.heap.size,1,none⟩) (Nat.le_refl _) (.int .i64 0)).setCell (p := ⟨w.heap.size,5,none⟩) (Nat.le_refl _) (.slice none 0 0))
   clear y0 y1 y2 y3 y4 y5 y6 y7 y8 f1 f5
   generalize ((w2.setCell ⟨w.heap.size,1,none⟩ (.int .i64 0)).setCell ⟨w.heap.size,5,none⟩ (.slice none 0 0)) = W3 at *
   go_wp2
   go_ret
   exact ⟨by simp,HB3.out⟩
  | true =>
   go_enter Tryz.func214,Tryz.ntmps214
   go_upto_region 50 with (first
    | (go_at_call 233; (with_reducible refine (HK _).out.mono ?_); rintro e w1 ⟨rfl,hb1⟩; have HB1 := hid (HBX.out.trans (hb1.mono HBX.out.size)); have HX1 := hid (HX.out.below hb1 HX.out.lt); have z0 := HX1.out.at (k := 0) (v := .int .i64 op) rfl; clear hb1)
    | (go_at_call 152; (with_reducible refine (HI _).out.mono ?_); rintro e w2 ⟨rfl,hb2⟩; have HB2 := hid (HB1.out.trans (hb2.mono HB1.out.size)); have HX2 := hid (HX1.out.below hb2 HX1.out.lt); obtain ⟨y0,y1,y2,y3,y4,y5,y6,y7,y8⟩ := ca9 HX2.out; have f1 := HX2.out.free 1; have f5 := HX2.out.free 5; clear hb2)
    | (go_at_call 145; (with_reducible refine (HIA _).out.mono ?_); rintro e w3 ⟨rfl,rfl⟩)
    | (go_at_call 143; (with_reducible refine (HLX _ (HB2.out.mono hB)).out.mono ?_); rintro e w3 ⟨rfl,rfl⟩))
   have HX3 := hid ((HX2.out.set (k := 1) (.int .i64 0)).set (k := 5) (.slice none 0 0))
   have HB3 := hid ((HB2.out.setCell (p := ⟨w.heap.size,1,none⟩) (Nat.le_refl _) (.int .i64 0)).setCell (p := ⟨w.heap.size,5,none⟩) (Nat.le_refl _) (.slice none 0 0))
   clear y0 y1 y2 y3 y4 y5 y6 y7 y8 f1 f5
   generalize ((w2.setCell ⟨w.heap.size,1,none⟩ (.int .i64 0)).setCell ⟨w.heap.size,5,none⟩ (.slice none 0 0)) = W3 at *
   obtain ⟨x0,x1,x2,x3,x4,x5,x6,x7,x8⟩ := ca9 HX3.out
   go_wp2_with (go_at_call 236; (with_reducible refine (HU _).out.mono ?_); rintro e w4 ⟨rfl,hb4⟩)
   go_ret
   exact ⟨by simp,HB3.out.trans (hb4.mono HB3.out.size)⟩
set_option maxHeartbeats 4000000 in
theorem ins_6 (op a b : Int) (n h : Nat) (l : List Int) (nl : Nat) (hnl : nl = l.length) (pl pb pe : Option Addr) (cl nb cb ne ce : Nat) (ot : Bool) (B : Nat) (w : World) (hB : B ≤ w.heap.size) (hl : LI B w (.slice pl nl cl) l) (hn : nl < 9223372036854775807)
  (hk : ∀ W,Calls Tryz.prog 233 #[.int .i64 op] W fun e w' => e = .returned (.bool true) ∧ Below W.heap.size W w') (hi : ∀ W,Calls Tryz.prog 152 #[.int .i64 op] W fun e w' => e = .returned (.int .i64 6) ∧ Below W.heap.size W w') :
  Calls Tryz.prog 214 #[.agg #[.int .i64 op,.int .i64 a,.int .i64 b,.int .u64 n,.int .u64 h,.slice pl nl cl,.slice pb nb cb,.slice pe ne ce,.bool ot]] w fun e w' => e = .returned (.bool ((l.all valB) && unB a b n h ot 0 nb ne)) ∧ Below w.heap.size w w' := by
 have HK := fun W => hid (hk W)
 have HI := fun W => hid (hi W)
 have HU := fun W => hid (isUnused_says op a b n h none pb pe 0 0 nb cb ne ce ot W)
 generalize unB a b n h ot 0 nb ne = u at *
 try simp only [show ((0 : Nat) : Int) = 0 from rfl] at HU
 have HBX := hid ((Below.refl w.heap.size w).alloc (Nat.le_refl _) (.cells #[.int .i64 op,.int .i64 a,.int .i64 b,.int .u64 n,.int .u64 h,.slice pl nl cl,.slice pb nb cb,.slice pe ne ce,.bool ot] 39))
 have HX := hid (CA.new w #[.int .i64 op,.int .i64 a,.int .i64 b,.int .u64 n,.int .u64 h,.slice pl nl cl,.slice pb nb cb,.slice pe ne ce,.bool ot] 39)
 have HLX := fun W (hW : Below B w W) => hid (all_int 144 (fun _ _ => rfl) valB isVal_says l (.slice pl nl cl) B W (hl.below hW) (Nat.le_trans hB hW.size) (by omega))
 generalize l.all valB = lx at *
 clear hk hi hl hnl hn
 cases lx with
 | false =>
  go_enter Tryz.func214,Tryz.ntmps214
  go_upto_region 50 with (first
   | (go_at_call 233; (with_reducible refine (HK _).out.mono ?_); rintro e w1 ⟨rfl,hb1⟩; have HB1 := hid (HBX.out.trans (hb1.mono HBX.out.size)); have HX1 := hid (HX.out.below hb1 HX.out.lt); have z0 := HX1.out.at (k := 0) (v := .int .i64 op) rfl; clear hb1)
   | (go_at_call 152; (with_reducible refine (HI _).out.mono ?_); rintro e w2 ⟨rfl,hb2⟩; have HB2 := hid (HB1.out.trans (hb2.mono HB1.out.size)); have HX2 := hid (HX1.out.below hb2 HX1.out.lt); obtain ⟨y0,y1,y2,y3,y4,y5,y6,y7,y8⟩ := ca9 HX2.out; have f5 := HX2.out.free 5; clear hb2)
   | (go_at_call 143; (with_reducible refine (HLX _ (HB2.out.mono hB)).out.mono ?_); rintro e w3 ⟨rfl,rfl⟩))
  have HX3 := hid (HX2.out.set (k := 5) (.slice none 0 0))
  have HB3 := hid (HB2.out.setCell (p := ⟨w.heap.size,5,none⟩) (Nat.le_refl _) (.slice none 0 0))
  clear y0 y1 y2 y3 y4 y5 y6 y7 y8 f5
  generalize (w2.setCell ⟨w.heap.size,5,none⟩ (.slice none 0 0)) = W3 at *
  go_wp2
  go_ret
  exact ⟨by simp,HB3.out⟩
 | true =>
  go_enter Tryz.func214,Tryz.ntmps214
  go_upto_region 50 with (first
   | (go_at_call 233; (with_reducible refine (HK _).out.mono ?_); rintro e w1 ⟨rfl,hb1⟩; have HB1 := hid (HBX.out.trans (hb1.mono HBX.out.size)); have HX1 := hid (HX.out.below hb1 HX.out.lt); have z0 := HX1.out.at (k := 0) (v := .int .i64 op) rfl; clear hb1)
   | (go_at_call 152; (with_reducible refine (HI _).out.mono ?_); rintro e w2 ⟨rfl,hb2⟩; have HB2 := hid (HB1.out.trans (hb2.mono HB1.out.size)); have HX2 := hid (HX1.out.below hb2 HX1.out.lt); obtain ⟨y0,y1,y2,y3,y4,y5,y6,y7,y8⟩ := ca9 HX2.out; have f5 := HX2.out.free 5; clear hb2)
   | (go_at_call 143; (with_reducible refine (HLX _ (HB2.out.mono hB)).out.mono ?_); rintro e w3 ⟨rfl,rfl⟩))
  have HX3 := hid (HX2.out.set (k := 5) (.slice none 0 0))
  have HB3 := hid (HB2.out.setCell (p := ⟨w.heap.size,5,none⟩) (Nat.le_refl _) (.slice none 0 0))
  clear y0 y1 y2 y3 y4 y5 y6 y7 y8 f5
  generalize (w2.setCell ⟨w.heap.size,5,none⟩ (.slice none 0 0)) = W3 at *
  obtain ⟨x0,x1,x2,x3,x4,x5,x6,x7,x8⟩ := ca9 HX3.out
  go_wp2_with (go_at_call 236; (with_reducible refine (HU _).out.mono ?_); rintro e w4 ⟨rfl,hb4⟩)
  go_ret
  exact ⟨by simp,HB3.out.trans (hb4.mono HB3.out.size)⟩
set_option maxHeartbeats 4000000 in
theorem ins_24 (op a b : Int) (n h : Nat) (l : List Int) (nl : Nat) (hnl : nl = l.length) (pl pb pe : Option Addr) (cl nb cb ne ce : Nat) (ot : Bool) (B : Nat) (w : World) (hB : B ≤ w.heap.size) (hl : LI B w (.slice pl nl cl) l) (hn : nl < 9223372036854775807)
  (hk : ∀ W,Calls Tryz.prog 233 #[.int .i64 op] W fun e w' => e = .returned (.bool true) ∧ Below W.heap.size W w') (hi : ∀ W,Calls Tryz.prog 152 #[.int .i64 op] W fun e w' => e = .returned (.int .i64 24) ∧ Below W.heap.size W w') :
  Calls Tryz.prog 214 #[.agg #[.int .i64 op,.int .i64 a,.int .i64 b,.int .u64 n,.int .u64 h,.slice pl nl cl,.slice pb nb cb,.slice pe ne ce,.bool ot]] w fun e w' => e = .returned (.bool ((((nl : Int) == 16) && l.all byteB) && unB a b n h ot 0 nb ne)) ∧ Below w.heap.size w w' := by
 have HK := fun W => hid (hk W)
 have HI := fun W => hid (hi W)
 have HU := fun W => hid (isUnused_says op a b n h none pb pe 0 0 nb cb ne ce ot W)
 generalize unB a b n h ot 0 nb ne = u at *
 try simp only [show ((0 : Nat) : Int) = 0 from rfl] at HU
 have HBX := hid ((Below.refl w.heap.size w).alloc (Nat.le_refl _) (.cells #[.int .i64 op,.int .i64 a,.int .i64 b,.int .u64 n,.int .u64 h,.slice pl nl cl,.slice pb nb cb,.slice pe ne ce,.bool ot] 39))
 have HX := hid (CA.new w #[.int .i64 op,.int .i64 a,.int .i64 b,.int .u64 n,.int .u64 h,.slice pl nl cl,.slice pb nb cb,.slice pe ne ce,.bool ot] 39)
 obtain ⟨l16,dl⟩ : ∃ x,((nl : Int) == 16) = x := ⟨_,rfl⟩
 rw [dl]
 have HLX := fun W (hW : Below B w W) => hid (all_int 235 (fun _ _ => rfl) byteB isByte_says l (.slice pl nl cl) B W (hl.below hW) (Nat.le_trans hB hW.size) (by omega))
 generalize l.all byteB = lx at *
 clear hk hi hl hnl hn
 cases l16 with
 | false =>
  go_enter Tryz.func214,Tryz.ntmps214
  go_upto_region 50 with (first
   | (go_at_call 233; (with_reducible refine (HK _).out.mono ?_); rintro e w1 ⟨rfl,hb1⟩; have HB1 := hid (HBX.out.trans (hb1.mono HBX.out.size)); have HX1 := hid (HX.out.below hb1 HX.out.lt); have z0 := HX1.out.at (k := 0) (v := .int .i64 op) rfl; clear hb1)
   | (go_at_call 152; (with_reducible refine (HI _).out.mono ?_); rintro e w2 ⟨rfl,hb2⟩; have HB2 := hid (HB1.out.trans (hb2.mono HB1.out.size)); have HX2 := hid (HX1.out.below hb2 HX1.out.lt); obtain ⟨y0,y1,y2,y3,y4,y5,y6,y7,y8⟩ := ca9 HX2.out; have f5 := HX2.out.free 5; clear hb2)
   | (go_at_call 143; (with_reducible refine (HLX _ (HB2.out.mono hB)).out.mono ?_); rintro e w3 ⟨rfl,rfl⟩))
  have HX3 := hid (HX2.out.set (k := 5) (.slice none 0 0))
  have HB3 := hid (HB2.out.setCell (p := ⟨w.heap.size,5,none⟩) (Nat.le_refl _) (.slice none 0 0))
  clear y0 y1 y2 y3 y4 y5 y6 y7 y8 f5
  generalize (w2.setCell ⟨w.heap.size,5,none⟩ (.slice none 0 0)) = W3 at *
  go_wp2
  go_ret
  exact ⟨by simp,HB3.out⟩
 | true =>
  cases lx with
  | false =>
   go_enter Tryz.func214,Tryz.ntmps214
   go_upto_region 50 with (first
    | (go_at_call 233; (with_reducible refine (HK _).out.mono ?_); rintro e w1 ⟨rfl,hb1⟩; have HB1 := hid (HBX.out.trans (hb1.mono HBX.out.size)); have HX1 := hid (HX.out.below hb1 HX.out.lt); have z0 := HX1.out.at (k := 0) (v := .int .i64 op) rfl; clear hb1)
    | (go_at_call 152; (with_reducible refine (HI _).out.mono ?_); rintro e w2 ⟨rfl,hb2⟩; have HB2 := hid (HB1.out.trans (hb2.mono HB1.out.size)); have HX2 := hid (HX1.out.below hb2 HX1.out.lt); obtain ⟨y0,y1,y2,y3,y4,y5,y6,y7,y8⟩ := ca9 HX2.out; have f5 := HX2.out.free 5; clear hb2)
    | (go_at_call 143; (with_reducible refine (HLX _ (HB2.out.mono hB)).out.mono ?_); rintro e w3 ⟨rfl,rfl⟩))
   have HX3 := hid (HX2.out.set (k := 5) (.slice none 0 0))
   have HB3 := hid (HB2.out.setCell (p := ⟨w.heap.size,5,none⟩) (Nat.le_refl _) (.slice none 0 0))
   clear y0 y1 y2 y3 y4 y5 y6 y7 y8 f5
   generalize (w2.setCell ⟨w.heap.size,5,none⟩ (.slice none 0 0)) = W3 at *
   go_wp2
   go_ret
   exact ⟨by simp,HB3.out⟩
  | true =>
   go_enter Tryz.func214,Tryz.ntmps214
   go_upto_region 50 with (first
    | (go_at_call 233; (with_reducible refine (HK _).out.mono ?_); rintro e w1 ⟨rfl,hb1⟩; have HB1 := hid (HBX.out.trans (hb1.mono HBX.out.size)); have HX1 := hid (HX.out.below hb1 HX.out.lt); have z0 := HX1.out.at (k := 0) (v := .int .i64 op) rfl; clear hb1)
    | (go_at_call 152; (with_reducible refine (HI _).out.mono ?_); rintro e w2 ⟨rfl,hb2⟩; have HB2 := hid (HB1.out.trans (hb2.mono HB1.out.size)); have HX2 := hid (HX1.out.below hb2 HX1.out.lt); obtain ⟨y0,y1,y2,y3,y4,y5,y6,y7,y8⟩ := ca9 HX2.out; have f5 := HX2.out.free 5; clear hb2)
    | (go_at_call 143; (with_reducible refine (HLX _ (HB2.out.mono hB)).out.mono ?_); rintro e w3 ⟨rfl,rfl⟩))
   have HX3 := hid (HX2.out.set (k := 5) (.slice none 0 0))
   have HB3 := hid (HB2.out.setCell (p := ⟨w.heap.size,5,none⟩) (Nat.le_refl _) (.slice none 0 0))
   clear y0 y1 y2 y3 y4 y5 y6 y7 y8 f5
   generalize (w2.setCell ⟨w.heap.size,5,none⟩ (.slice none 0 0)) = W3 at *
   obtain ⟨x0,x1,x2,x3,x4,x5,x6,x7,x8⟩ := ca9 HX3.out
   go_wp2_with (go_at_call 236; (with_reducible refine (HU _).out.mono ?_); rintro e w4 ⟨rfl,hb4⟩)
   go_ret
   exact ⟨by simp,HB3.out.trans (hb4.mono HB3.out.size)⟩
end Go.Proofs.YtjgeedgphcjhoaaGreat
namespace Go.Proofs.YtjgeedgphcjhoaaGreat
open Go.RowKit
set_option maxHeartbeats 4000000 in
theorem ins_1 (op a b : Int) (n h : Nat) (nl : Nat) (pl pb pe : Option Addr) (cl nb cb ne ce : Nat) (ot : Bool) (w : World)
  (hk : ∀ W,Calls Tryz.prog 233 #[.int .i64 op] W fun e w' => e = .returned (.bool true) ∧ Below W.heap.size W w') (hi : ∀ W,Calls Tryz.prog 152 #[.int .i64 op] W fun e w' => e = .returned (.int .i64 1) ∧ Below W.heap.size W w') :
  Calls Tryz.prog 214 #[.agg #[.int .i64 op,.int .i64 a,.int .i64 b,.int .u64 n,.int .u64 h,.slice pl nl cl,.slice pb nb cb,.slice pe ne ce,.bool ot]] w fun e w' => e = .returned (.bool (blB op a b n h ot nl nb ne)) ∧ Below w.heap.size w w' := by
 have HK := fun W => hid (hk W)
 have HI := fun W => hid (hi W)
 have HU := fun W => hid (isBlock_says op a b n h pl pb pe nl cl nb cb ne ce ot W)
 generalize blB op a b n h ot nl nb ne = u at *
 have HBX := hid ((Below.refl w.heap.size w).alloc (Nat.le_refl _) (.cells #[.int .i64 op,.int .i64 a,.int .i64 b,.int .u64 n,.int .u64 h,.slice pl nl cl,.slice pb nb cb,.slice pe ne ce,.bool ot] 39))
 have HX := hid (CA.new w #[.int .i64 op,.int .i64 a,.int .i64 b,.int .u64 n,.int .u64 h,.slice pl nl cl,.slice pb nb cb,.slice pe ne ce,.bool ot] 39)
 clear hk hi
 go_enter Tryz.func214,Tryz.ntmps214
 go_wp2_with (first
  | (go_at_call 233; (with_reducible refine (HK _).out.mono ?_); rintro e w1 ⟨rfl,hb1⟩; have HB1 := hid (HBX.out.trans (hb1.mono HBX.out.size)); have HX1 := hid (HX.out.below hb1 HX.out.lt); have z0 := HX1.out.at (k := 0) (v := .int .i64 op) rfl; clear hb1)
  | (go_at_call 152; (with_reducible refine (HI _).out.mono ?_); rintro e w2 ⟨rfl,hb2⟩; have HB2 := hid (HB1.out.trans (hb2.mono HB1.out.size)); have HX2 := hid (HX1.out.below hb2 HX1.out.lt); obtain ⟨y0,y1,y2,y3,y4,y5,y6,y7,y8⟩ := ca9 HX2.out; clear hb2)
  | (go_at_call 234; (with_reducible refine (HU _).out.mono ?_); rintro e w4 ⟨rfl,hb4⟩; have HB4 := hid (HB2.out.trans (hb4.mono HB2.out.size)); clear hb4))
 go_ret
 exact ⟨rfl,HB4.out⟩
set_option maxHeartbeats 4000000 in
theorem ins_26 (op a b : Int) (n h : Nat) (l : List Int) (nl : Nat) (hnl : nl = l.length) (pl pb pe : Option Addr) (cl nb cb ne ce : Nat) (ot : Bool) (B : Nat) (w : World) (hB : B ≤ w.heap.size) (hl : LI B w (.slice pl nl cl) l)
  (hk : ∀ W,Calls Tryz.prog 233 #[.int .i64 op] W fun e w' => e = .returned (.bool true) ∧ Below W.heap.size W w') (hi : ∀ W,Calls Tryz.prog 152 #[.int .i64 op] W fun e w' => e = .returned (.int .i64 26) ∧ Below W.heap.size W w') :
  Calls Tryz.prog 214 #[.agg #[.int .i64 op,.int .i64 a,.int .i64 b,.int .u64 n,.int .u64 h,.slice pl nl cl,.slice pb nb cb,.slice pe ne ce,.bool ot]] w fun e w' => e = .returned (.bool ((idxB a && idxB b && ((nl : Int) == 1) && byteB (l.headD 0)) && unB 0 0 n h ot 0 nb ne)) ∧ Below w.heap.size w w' := by
 have HK := fun W => hid (hk W)
 have HI := fun W => hid (hi W)
 have HU := fun W => hid (isUnused_says op 0 0 n h none pb pe 0 0 nb cb ne ce ot W)
 generalize unB 0 0 n h ot 0 nb ne = u at *
 have HBX := hid ((Below.refl w.heap.size w).alloc (Nat.le_refl _) (.cells #[.int .i64 op,.int .i64 a,.int .i64 b,.int .u64 n,.int .u64 h,.slice pl nl cl,.slice pb nb cb,.slice pe ne ce,.bool ot] 39))
 have HX := hid (CA.new w #[.int .i64 op,.int .i64 a,.int .i64 b,.int .u64 n,.int .u64 h,.slice pl nl cl,.slice pb nb cb,.slice pe ne ce,.bool ot] 39)
 have HIA := fun W => hid (isIndex_says a W)
 generalize idxB a = ia at *
 have HIB := fun W => hid (isIndex_says b W)
 generalize idxB b = ib at *
 by_cases h1 : nl = 1
 ·obtain ⟨x,rfl⟩ : ∃ x,l = [x] := List.length_eq_one_iff.1 (by omega)
  obtain ⟨p,c,e1,-,hx⟩ := hl
  obtain ⟨g,o,e2,hg,hxx⟩ := hx (by simp)
  simp only [Value.slice.injEq] at e1
  obtain ⟨rfl,-,-⟩ := e1
  subst e2
  have HC0 := hid (hxx 0 x rfl)
  rw [Nat.add_zero] at HC0
  have HG := hid (Nat.lt_of_lt_of_le hg hB)
  have HBY := fun W => hid (isByte_says x W)
  simp only [List.headD_cons]
  generalize byteB x = by' at *
  subst h1
  clear hk hi hxx hnl hx hg hB
  cases ia with
  | false =>
   go_enter Tryz.func214,Tryz.ntmps214
   go_upto_region 50 with (first
    | (go_at_call 233; (with_reducible refine (HK _).out.mono ?_); rintro e w1 ⟨rfl,hb1⟩; have HB1 := hid (HBX.out.trans (hb1.mono HBX.out.size)); have HX1 := hid (HX.out.below hb1 HX.out.lt); have z0 := HX1.out.at (k := 0) (v := .int .i64 op) rfl; clear hb1)
    | (go_at_call 152; (with_reducible refine (HI _).out.mono ?_); rintro e w2 ⟨rfl,hb2⟩; have HB2 := hid (HB1.out.trans (hb2.mono HB1.out.size)); have HX2 := hid (HX1.out.below hb2 HX1.out.lt); obtain ⟨y0,y1,y2,y3,y4,y5,y6,y7,y8⟩ := ca9 HX2.out; have f1 := HX2.out.free 1; have f2 := HX2.out.free 2; have f5 := HX2.out.free 5; clear hb2)
    | (go_at_call 145; (with_reducible refine (HIA _).out.mono ?_); rintro e w3 ⟨rfl,rfl⟩)
    | (go_at_call 145; (with_reducible refine (HIB _).out.mono ?_); rintro e w3 ⟨rfl,rfl⟩))
   have HX3 := hid (((HX2.out.set (k := 1) (.int .i64 0)).set (k := 2) (.int .i64 0)).set (k := 5) (.slice none 0 0))
   have HB3 := hid (((HB2.out.setCell (p := ⟨w.heap.size,1,none⟩) (Nat.le_refl _) (.int .i64 0)).setCell (p := ⟨w.heap.size,2,none⟩) (Nat.le_refl _) (.int .i64 0)).setCell (p := ⟨w.heap.size,5,none⟩) (Nat.le_refl _) (.slice none 0 0))
   clear y0 y1 y2 y3 y4 y5 y6 y7 y8 f1 f2 f5
   generalize (((w2.setCell ⟨w.heap.size,1,none⟩ (.int .i64 0)).setCell ⟨w.heap.size,2,none⟩ (.int .i64 0)).setCell ⟨w.heap.size,5,none⟩ (.slice none 0 0)) = W3 at *
   go_wp2
   go_ret
   exact ⟨by simp,HB3.out⟩
  | true =>
   cases ib with
   | false =>
    go_enter Tryz.func214,Tryz.ntmps214
    go_upto_region 50 with (first
     | (go_at_call 233; (with_reducible refine (HK _).out.mono ?_); rintro e w1 ⟨rfl,hb1⟩; have HB1 := hid (HBX.out.trans (hb1.mono HBX.out.size)); have HX1 := hid (HX.out.below hb1 HX.out.lt); have z0 := HX1.out.at (k := 0) (v := .int .i64 op) rfl; clear hb1)
     | (go_at_call 152; (with_reducible refine (HI _).out.mono ?_); rintro e w2 ⟨rfl,hb2⟩; have HB2 := hid (HB1.out.trans (hb2.mono HB1.out.size)); have HX2 := hid (HX1.out.below hb2 HX1.out.lt); obtain ⟨y0,y1,y2,y3,y4,y5,y6,y7,y8⟩ := ca9 HX2.out; have f1 := HX2.out.free 1; have f2 := HX2.out.free 2; have f5 := HX2.out.free 5; clear hb2)
     | (go_at_call 145; (with_reducible refine (HIA _).out.mono ?_); rintro e w3 ⟨rfl,rfl⟩)
     | (go_at_call 145; (with_reducible refine (HIB _).out.mono ?_); rintro e w3 ⟨rfl,rfl⟩))
    have HX3 := hid (((HX2.out.set (k := 1) (.int .i64 0)).set (k := 2) (.int .i64 0)).set (k := 5) (.slice none 0 0))
    have HB3 := hid (((HB2.out.setCell (p := ⟨w.heap.size,1,none⟩) (Nat.le_refl _) (.int .i64 0)).setCell (p := ⟨w.heap.size,2,none⟩) (Nat.le_refl _) (.int .i64 0)).setCell (p := ⟨w.heap.size,5,none⟩) (Nat.le_refl _) (.slice none 0 0))
    clear y0 y1 y2 y3 y4 y5 y6 y7 y8 f1 f2 f5
    generalize (((w2.setCell ⟨w.heap.size,1,none⟩ (.int .i64 0)).setCell ⟨w.heap.size,2,none⟩ (.int .i64 0)).setCell ⟨w.heap.size,5,none⟩ (.slice none 0 0)) = W3 at *
    go_wp2
    go_ret
    exact ⟨by simp,HB3.out⟩
   | true =>
    cases by' with
    | false =>
     go_enter Tryz.func214,Tryz.ntmps214
     go_upto_region 50 with (first
      | (go_at_call 233; (with_reducible refine (HK _).out.mono ?_); rintro e w1 ⟨rfl,hb1⟩; have HB1 := hid (HBX.out.trans (hb1.mono HBX.out.size)); have HX1 := hid (HX.out.below hb1 HX.out.lt); have z0 := HX1.out.at (k := 0) (v := .int .i64 op) rfl; clear hb1)
      | (go_at_call 152; (with_reducible refine (HI _).out.mono ?_); rintro e w2 ⟨rfl,hb2⟩; have HB2 := hid (HB1.out.trans (hb2.mono HB1.out.size)); have HX2 := hid (HX1.out.below hb2 HX1.out.lt); obtain ⟨y0,y1,y2,y3,y4,y5,y6,y7,y8⟩ := ca9 HX2.out; have f1 := HX2.out.free 1; have f2 := HX2.out.free 2; have f5 := HX2.out.free 5; have x0 := (HB2.out.cell (p := ⟨g,o,none⟩) HG.out).trans HC0.out; clear hb2)
      | (go_at_call 145; (with_reducible refine (HIA _).out.mono ?_); rintro e w3 ⟨rfl,rfl⟩)
      | (go_at_call 145; (with_reducible refine (HIB _).out.mono ?_); rintro e w3 ⟨rfl,rfl⟩)
      | (go_at_call 235; (with_reducible refine (HBY _).out.mono ?_); rintro e w3 ⟨rfl,rfl⟩))
     have HX3 := hid (((HX2.out.set (k := 1) (.int .i64 0)).set (k := 2) (.int .i64 0)).set (k := 5) (.slice none 0 0))
     have HB3 := hid (((HB2.out.setCell (p := ⟨w.heap.size,1,none⟩) (Nat.le_refl _) (.int .i64 0)).setCell (p := ⟨w.heap.size,2,none⟩) (Nat.le_refl _) (.int .i64 0)).setCell (p := ⟨w.heap.size,5,none⟩) (Nat.le_refl _) (.slice none 0 0))
     clear y0 y1 y2 y3 y4 y5 y6 y7 y8 f1 f2 f5
     generalize (((w2.setCell ⟨w.heap.size,1,none⟩ (.int .i64 0)).setCell ⟨w.heap.size,2,none⟩ (.int .i64 0)).setCell ⟨w.heap.size,5,none⟩ (.slice none 0 0)) = W3 at *
     go_wp2
     go_ret
     exact ⟨by simp,HB3.out⟩
    | true =>
     go_enter Tryz.func214,Tryz.ntmps214
     go_upto_region 50 with (first
      | (go_at_call 233; (with_reducible refine (HK _).out.mono ?_); rintro e w1 ⟨rfl,hb1⟩; have HB1 := hid (HBX.out.trans (hb1.mono HBX.out.size)); have HX1 := hid (HX.out.below hb1 HX.out.lt); have z0 := HX1.out.at (k := 0) (v := .int .i64 op) rfl; clear hb1)
      | (go_at_call 152; (with_reducible refine (HI _).out.mono ?_); rintro e w2 ⟨rfl,hb2⟩; have HB2 := hid (HB1.out.trans (hb2.mono HB1.out.size)); have HX2 := hid (HX1.out.below hb2 HX1.out.lt); obtain ⟨y0,y1,y2,y3,y4,y5,y6,y7,y8⟩ := ca9 HX2.out; have f1 := HX2.out.free 1; have f2 := HX2.out.free 2; have f5 := HX2.out.free 5; have x0 := (HB2.out.cell (p := ⟨g,o,none⟩) HG.out).trans HC0.out; clear hb2)
      | (go_at_call 145; (with_reducible refine (HIA _).out.mono ?_); rintro e w3 ⟨rfl,rfl⟩)
      | (go_at_call 145; (with_reducible refine (HIB _).out.mono ?_); rintro e w3 ⟨rfl,rfl⟩)
      | (go_at_call 235; (with_reducible refine (HBY _).out.mono ?_); rintro e w3 ⟨rfl,rfl⟩))
     have HX3 := hid (((HX2.out.set (k := 1) (.int .i64 0)).set (k := 2) (.int .i64 0)).set (k := 5) (.slice none 0 0))
     have HB3 := hid (((HB2.out.setCell (p := ⟨w.heap.size,1,none⟩) (Nat.le_refl _) (.int .i64 0)).setCell (p := ⟨w.heap.size,2,none⟩) (Nat.le_refl _) (.int .i64 0)).setCell (p := ⟨w.heap.size,5,none⟩) (Nat.le_refl _) (.slice none 0 0))
     clear y0 y1 y2 y3 y4 y5 y6 y7 y8 f1 f2 f5
     generalize (((w2.setCell ⟨w.heap.size,1,none⟩ (.int .i64 0)).setCell ⟨w.heap.size,2,none⟩ (.int .i64 0)).setCell ⟨w.heap.size,5,none⟩ (.slice none 0 0)) = W3 at *
     have x0' := HX3.out.at (k := 0) (v := .int .i64 op) rfl
     have x1' := HX3.out.at (k := 1) (v := .int .i64 0) rfl
     have x2' := HX3.out.at (k := 2) (v := .int .i64 0) rfl
     have x3' := HX3.out.at (k := 3) (v := .int .u64 n) rfl
     have x4' := HX3.out.at (k := 4) (v := .int .u64 h) rfl
     have x5' := HX3.out.at (k := 5) (v := .slice none 0 0) rfl
     have x6' := HX3.out.at (k := 6) (v := .slice pb nb cb) rfl
     have x7' := HX3.out.at (k := 7) (v := .slice pe ne ce) rfl
     have x8' := HX3.out.at (k := 8) (v := .bool ot) rfl
     go_wp2_with (go_at_call 236; (with_reducible refine (HU _).out.mono ?_); rintro e w4 ⟨rfl,hb4⟩)
     go_ret
     exact ⟨by simp,HB3.out.trans (hb4.mono HB3.out.size)⟩
 have d1 : ((nl : Int) == 1) = false := by simp; omega
 rw [d1]
 clear hk hi hl hnl
 cases ia with
 | false =>
  go_enter Tryz.func214,Tryz.ntmps214
  go_upto_region 50 with (first
   | (go_at_call 233; (with_reducible refine (HK _).out.mono ?_); rintro e w1 ⟨rfl,hb1⟩; have HB1 := hid (HBX.out.trans (hb1.mono HBX.out.size)); have HX1 := hid (HX.out.below hb1 HX.out.lt); have z0 := HX1.out.at (k := 0) (v := .int .i64 op) rfl; clear hb1)
   | (go_at_call 152; (with_reducible refine (HI _).out.mono ?_); rintro e w2 ⟨rfl,hb2⟩; have HB2 := hid (HB1.out.trans (hb2.mono HB1.out.size)); have HX2 := hid (HX1.out.below hb2 HX1.out.lt); obtain ⟨y0,y1,y2,y3,y4,y5,y6,y7,y8⟩ := ca9 HX2.out; have f1 := HX2.out.free 1; have f2 := HX2.out.free 2; have f5 := HX2.out.free 5; clear hb2)
   | (go_at_call 145; (with_reducible refine (HIA _).out.mono ?_); rintro e w3 ⟨rfl,rfl⟩)
   | (go_at_call 145; (with_reducible refine (HIB _).out.mono ?_); rintro e w3 ⟨rfl,rfl⟩))
  have HX3 := hid (((HX2.out.set (k := 1) (.int .i64 0)).set (k := 2) (.int .i64 0)).set (k := 5) (.slice none 0 0))
  have HB3 := hid (((HB2.out.setCell (p := ⟨w.heap.size,1,none⟩) (Nat.le_refl _) (.int .i64 0)).setCell (p := ⟨w.heap.size,2,none⟩) (Nat.le_refl _) (.int .i64 0)).setCell (p := ⟨w.heap.size,5,none⟩) (Nat.le_refl _) (.slice none 0 0))
  clear y0 y1 y2 y3 y4 y5 y6 y7 y8 f1 f2 f5
  generalize (((w2.setCell ⟨w.heap.size,1,none⟩ (.int .i64 0)).setCell ⟨w.heap.size,2,none⟩ (.int .i64 0)).setCell ⟨w.heap.size,5,none⟩ (.slice none 0 0)) = W3 at *
  go_wp2
  go_ret
  exact ⟨by simp,HB3.out⟩
 | true =>
  cases ib with
  | false =>
   go_enter Tryz.func214,Tryz.ntmps214
   go_upto_region 50 with (first
    | (go_at_call 233; (with_reducible refine (HK _).out.mono ?_); rintro e w1 ⟨rfl,hb1⟩; have HB1 := hid (HBX.out.trans (hb1.mono HBX.out.size)); have HX1 := hid (HX.out.below hb1 HX.out.lt); have z0 := HX1.out.at (k := 0) (v := .int .i64 op) rfl; clear hb1)
    | (go_at_call 152; (with_reducible refine (HI _).out.mono ?_); rintro e w2 ⟨rfl,hb2⟩; have HB2 := hid (HB1.out.trans (hb2.mono HB1.out.size)); have HX2 := hid (HX1.out.below hb2 HX1.out.lt); obtain ⟨y0,y1,y2,y3,y4,y5,y6,y7,y8⟩ := ca9 HX2.out; have f1 := HX2.out.free 1; have f2 := HX2.out.free 2; have f5 := HX2.out.free 5; clear hb2)
    | (go_at_call 145; (with_reducible refine (HIA _).out.mono ?_); rintro e w3 ⟨rfl,rfl⟩)
    | (go_at_call 145; (with_reducible refine (HIB _).out.mono ?_); rintro e w3 ⟨rfl,rfl⟩))
   have HX3 := hid (((HX2.out.set (k := 1) (.int .i64 0)).set (k := 2) (.int .i64 0)).set (k := 5) (.slice none 0 0))
   have HB3 := hid (((HB2.out.setCell (p := ⟨w.heap.size,1,none⟩) (Nat.le_refl _) (.int .i64 0)).setCell (p := ⟨w.heap.size,2,none⟩) (Nat.le_refl _) (.int .i64 0)).setCell (p := ⟨w.heap.size,5,none⟩) (Nat.le_refl _) (.slice none 0 0))
   clear y0 y1 y2 y3 y4 y5 y6 y7 y8 f1 f2 f5
   generalize (((w2.setCell ⟨w.heap.size,1,none⟩ (.int .i64 0)).setCell ⟨w.heap.size,2,none⟩ (.int .i64 0)).setCell ⟨w.heap.size,5,none⟩ (.slice none 0 0)) = W3 at *
   go_wp2
   go_ret
   exact ⟨by simp,HB3.out⟩
  | true =>
   go_enter Tryz.func214,Tryz.ntmps214
   go_upto_region 50 with (first
    | (go_at_call 233; (with_reducible refine (HK _).out.mono ?_); rintro e w1 ⟨rfl,hb1⟩; have HB1 := hid (HBX.out.trans (hb1.mono HBX.out.size)); have HX1 := hid (HX.out.below hb1 HX.out.lt); have z0 := HX1.out.at (k := 0) (v := .int .i64 op) rfl; clear hb1)
    | (go_at_call 152; (with_reducible refine (HI _).out.mono ?_); rintro e w2 ⟨rfl,hb2⟩; have HB2 := hid (HB1.out.trans (hb2.mono HB1.out.size)); have HX2 := hid (HX1.out.below hb2 HX1.out.lt); obtain ⟨y0,y1,y2,y3,y4,y5,y6,y7,y8⟩ := ca9 HX2.out; have f1 := HX2.out.free 1; have f2 := HX2.out.free 2; have f5 := HX2.out.free 5; clear hb2)
    | (go_at_call 145; (with_reducible refine (HIA _).out.mono ?_); rintro e w3 ⟨rfl,rfl⟩)
    | (go_at_call 145; (with_reducible refine (HIB _).out.mono ?_); rintro e w3 ⟨rfl,rfl⟩))
   have HX3 := hid (((HX2.out.set (k := 1) (.int .i64 0)).set (k := 2) (.int .i64 0)).set (k := 5) (.slice none 0 0))
   have HB3 := hid (((HB2.out.setCell (p := ⟨w.heap.size,1,none⟩) (Nat.le_refl _) (.int .i64 0)).setCell (p := ⟨w.heap.size,2,none⟩) (Nat.le_refl _) (.int .i64 0)).setCell (p := ⟨w.heap.size,5,none⟩) (Nat.le_refl _) (.slice none 0 0))
   clear y0 y1 y2 y3 y4 y5 y6 y7 y8 f1 f2 f5
   generalize (((w2.setCell ⟨w.heap.size,1,none⟩ (.int .i64 0)).setCell ⟨w.heap.size,2,none⟩ (.int .i64 0)).setCell ⟨w.heap.size,5,none⟩ (.slice none 0 0)) = W3 at *
   go_wp2
   go_ret
   exact ⟨by simp,HB3.out⟩
end Go.Proofs.YtjgeedgphcjhoaaGreat
