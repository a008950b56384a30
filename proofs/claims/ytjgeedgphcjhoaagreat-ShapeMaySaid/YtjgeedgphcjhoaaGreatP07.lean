/-
  One3: merged, what the law does not reach left out (each text says what it holds where it lies in wip). No condition.
-/
import Derived.Test.YtjgeedgphcjhoaaGreatP03
import Derived.Test.YtjgeedgphcjhoaaGreatP04
set_option linter.unusedSimpArgs false
set_option linter.unusedVariables false
set_option maxRecDepth 100000
namespace Go.Proofs.YtjgeedgphcjhoaaGreat
open Go.RowKit
set_option maxHeartbeats 8000000 in
theorem one_17 (op a b : Int) (n h : Nat) (l : List Int) (nl : Nat) (hnl : nl = l.length) (pl pb pe : Option Addr) (cl nb cb ne ce : Nat) (ot : Bool) (B : Nat) (w : World) (hB : B ≤ w.heap.size) (hl : LI B w (.slice pl nl cl) l)
  (c0 : Int) (v1 v3 v4 : List UInt8) (v5 : Bool) (hc0 : decide (c0 < 0) = false) (hk : ∀ W,Calls Tryz.prog 153 #[.int .i64 op] W fun e w' => e = .returned (.agg #[.int .i64 c0,.string (str v1),.int .i64 17,.string (str v3),.string (str v4),.bool v5]) ∧ Below W.heap.size W w') :
  Calls Tryz.prog 209 #[.agg #[.int .i64 op,.int .i64 a,.int .i64 b,.int .u64 (n : Nat),.int .u64 (h : Nat),.slice pl nl cl,.slice pb nb cb,.slice pe ne ce,.bool ot]] w fun e w' => e = .returned (.bool (!(decide (0 < nb) || decide (0 < ne) || ot) && (idxR a && ((nl : Int) == 0) && (b == 0) && ((n : Int) == 0) && ((h : Int) == 0)))) ∧ Below w.heap.size w w' := by
 have HK := fun W => hid (hk W)
 have HIA := fun W => hid (RIndex_says a W)
 have HIB := fun W => hid (RIndex_says b W)
 have HVB := fun W => hid (RVal_says b W)
 have HRA := fun W => hid (RRef_says a W)
 generalize idxR a = ia at *
 generalize idxR b = ib at *
 generalize valB b = vb at *
 generalize refB a = ra at *
 have HLV := fun W (hW : Below B w W) => hid (RVals_says l (.slice pl nl cl) B W (hl.below hW))
 generalize l.all valB = lv at *
 have HBX := hid ((Below.refl w.heap.size w).alloc (Nat.le_refl _) (.cells #[.int .i64 op,.int .i64 a,.int .i64 b,.int .u64 (n : Nat),.int .u64 (h : Nat),.slice pl nl cl,.slice pb nb cb,.slice pe ne ce,.bool ot] 39))
 have HX := hid (CA.new w #[.int .i64 op,.int .i64 a,.int .i64 b,.int .u64 (n : Nat),.int .u64 (h : Nat),.slice pl nl cl,.slice pb nb cb,.slice pe ne ce,.bool ot] 39)
 clear hk hl hnl
 obtain ⟨p1,dp1⟩ : ∃ x,decide (0 < nb) = x := ⟨_,rfl⟩
 rw [dp1]
 obtain ⟨p2,dp2⟩ : ∃ x,decide (0 < ne) = x := ⟨_,rfl⟩
 rw [dp2]
 obtain ⟨q_l0,d_l0⟩ : ∃ x,((nl : Int) == 0) = x := ⟨_,rfl⟩
 rw [d_l0]
 obtain ⟨z2',e2⟩ : ∃ x,(b == 0) = x := ⟨_,rfl⟩
 rw [e2]
 obtain ⟨z3',e3⟩ : ∃ x,((n : Int) == 0) = x := ⟨_,rfl⟩
 rw [e3]
 obtain ⟨z4',e4⟩ : ∃ x,((h : Int) == 0) = x := ⟨_,rfl⟩
 rw [e4]
 have s1 : (a == a) = true := beq_self_eq_true _
 go_enter Tryz.func209,Tryz.ntmps209
 go_upto_region 2 with (go_at_call 153; (with_reducible refine (HK _).out.mono ?_); rintro e w1 ⟨rfl,hb1⟩; have HB1 := hid (HBX.out.trans (hb1.mono HBX.out.size)); have HX1 := hid (HX.out.below hb1 HX.out.lt); clear hb1)
 have HX2 := hid (HX1.out.alloc (.cells #[.int .i64 c0,.string (str v1),.int .i64 17,.string (str v3),.string (str v4),.bool v5] 172))
 have HR2 := hid (CA.new w1 #[.int .i64 c0,.string (str v1),.int .i64 17,.string (str v3),.string (str v4),.bool v5] 172)
 have HB2 := hid (HB1.out.alloc HB1.out.size (.cells #[.int .i64 c0,.string (str v1),.int .i64 17,.string (str v3),.string (str v4),.bool v5] 172))
 generalize w1.alloc (.cells #[.int .i64 c0,.string (str v1),.int .i64 17,.string (str v3),.string (str v4),.bool v5] 172) = W2 at *
 obtain ⟨gr,hgr⟩ : ∃ g,g = w1.heap.size := ⟨_,rfl⟩
 rw [← hgr] at HR2 ⊢
 clear hgr HX1 HB1 HX HBX
 obtain ⟨y0,y1,y2,y3,y4,y5,y6,y7,y8⟩ := ca9 HX2.out
 have r0 := HR2.out.at (k := 0) (v := .int .i64 c0) rfl
 have r2 := HR2.out.at (k := 2) (v := .int .i64 17) rfl
 rcases (show p1 = true ∨ (p1 = false ∧ p2 = true) ∨ (p1 = false ∧ p2 = false ∧ ot = true) ∨ (p1 = false ∧ p2 = false ∧ ot = false) by cases p1 <;> cases p2 <;> cases ot <;> simp) with rfl | ⟨rfl,rfl⟩ | ⟨rfl,rfl,rfl⟩ | ⟨rfl,rfl,rfl⟩
 ·go_wp2
  go_ret
  exact ⟨by simp,HB2.out⟩
 ·go_wp2
  go_ret
  exact ⟨by simp,HB2.out⟩
 ·go_wp2
  go_ret
  exact ⟨by simp,HB2.out⟩
 ·go_upto_region 12 with (first
   | (go_at_call 52; (with_reducible refine (HIA _).out.mono ?_); rintro e w3 ⟨rfl,rfl⟩)
   | (go_at_call 52; (with_reducible refine (HIB _).out.mono ?_); rintro e w3 ⟨rfl,rfl⟩)
   | (go_at_call 56; (with_reducible refine (HVB _).out.mono ?_); rintro e w3 ⟨rfl,rfl⟩)
   | (go_at_call 154; (with_reducible refine (HRA _).out.mono ?_); rintro e w3 ⟨rfl,rfl⟩)
   | (go_at_call 50; (with_reducible refine (HLV _ (HB2.out.mono hB)).out.mono ?_); rintro e w3 ⟨rfl,rfl⟩))
  have HP3 := hid (CA.new W2 #[.int .i64 op,.int .i64 0,.int .i64 0,.int .u64 0,.int .u64 0,.slice none 0 0,.slice none 0 0,.slice none 0 0,.bool false] 39)
  have HK3 := hid ((Below.refl W2.heap.size W2).alloc (Nat.le_refl _) (.cells #[.int .i64 op,.int .i64 0,.int .i64 0,.int .u64 0,.int .u64 0,.slice none 0 0,.slice none 0 0,.slice none 0 0,.bool false] 39))
  have HX3 := hid (HX2.out.below HK3.out HX2.out.lt)
  have HR3 := hid (HR2.out.below HK3.out HR2.out.lt)
  have HB3 := hid (HB2.out.alloc HB2.out.size (.cells #[.int .i64 op,.int .i64 0,.int .i64 0,.int .u64 0,.int .u64 0,.slice none 0 0,.slice none 0 0,.slice none 0 0,.bool false] 39))
  have HG := hid HX2.out.lt
  clear y0 y1 y2 y3 y4 y5 y6 y7 y8 r0 r2
  generalize W2.alloc (.cells #[.int .i64 op,.int .i64 0,.int .i64 0,.int .u64 0,.int .u64 0,.slice none 0 0,.slice none 0 0,.slice none 0 0,.bool false] 39) = W3 at *
  obtain ⟨gp,hgp⟩ : ∃ g,g = W2.heap.size := ⟨_,rfl⟩
  rw [← hgp] at HP3 HG ⊢
  clear hgp HX2 HR2 HB2 HK3
  obtain ⟨y0,y1,y2,y3,y4,y5,y6,y7,y8⟩ := ca9 HX3.out
  have r2 := HR3.out.at (k := 2) (v := .int .i64 17) rfl
  have f1 := HP3.out.free 1
  have p1 := HP3.out.at (k := 1) (v := .int .i64 0) rfl
  have p2 := HP3.out.at (k := 2) (v := .int .i64 0) rfl
  have p3 := HP3.out.at (k := 3) (v := .int .u64 0) rfl
  have p4 := HP3.out.at (k := 4) (v := .int .u64 0) rfl
  cases ia with
  | false =>
   go_upto_region 69 with (fail)
   have HP4 := hid (HP3.out.set (k := 1) (.int .i64 a))
   have HB4 := hid (HB3.out.setCell (p := ⟨gp,1,none⟩) (Nat.le_of_lt HG.out) (.int .i64 a))
   have HX4 := hid (HX3.out.below ((Below.refl gp W3).setCell (p := ⟨gp,1,none⟩) (Nat.le_refl _) (.int .i64 a)) HG.out)
   clear y0 y1 y2 y3 y4 y5 y6 y7 y8 p1 p2 p3 p4 r2 f1
   generalize (W3.setCell ⟨gp,1,none⟩ (.int .i64 a)) = W4 at *
   go_wp2
   go_ret
   exact ⟨by simp,HB4.out⟩
  | true =>
   cases q_l0 with
   | false =>
    go_upto_region 69 with (fail)
    have HP4 := hid (HP3.out.set (k := 1) (.int .i64 a))
    have HB4 := hid (HB3.out.setCell (p := ⟨gp,1,none⟩) (Nat.le_of_lt HG.out) (.int .i64 a))
    have HX4 := hid (HX3.out.below ((Below.refl gp W3).setCell (p := ⟨gp,1,none⟩) (Nat.le_refl _) (.int .i64 a)) HG.out)
    clear y0 y1 y2 y3 y4 y5 y6 y7 y8 p1 p2 p3 p4 r2 f1
    generalize (W3.setCell ⟨gp,1,none⟩ (.int .i64 a)) = W4 at *
    go_wp2
    go_ret
    exact ⟨by simp,HB4.out⟩
   | true =>
    cases z2' with
    | false =>
     go_upto_region 69 with (fail)
     have HP4 := hid (HP3.out.set (k := 1) (.int .i64 a))
     have HB4 := hid (HB3.out.setCell (p := ⟨gp,1,none⟩) (Nat.le_of_lt HG.out) (.int .i64 a))
     have HX4 := hid (HX3.out.below ((Below.refl gp W3).setCell (p := ⟨gp,1,none⟩) (Nat.le_refl _) (.int .i64 a)) HG.out)
     clear y0 y1 y2 y3 y4 y5 y6 y7 y8 p1 p2 p3 p4 r2 f1
     generalize (W3.setCell ⟨gp,1,none⟩ (.int .i64 a)) = W4 at *
     have y1 := HX4.out.at (k := 1) (v := .int .i64 a) rfl
     have y2 := HX4.out.at (k := 2) (v := .int .i64 b) rfl
     have y3 := HX4.out.at (k := 3) (v := .int .u64 (n : Nat)) rfl
     have y4 := HX4.out.at (k := 4) (v := .int .u64 (h : Nat)) rfl
     have p1 := HP4.out.at (k := 1) (v := .int .i64 a) rfl
     have p2 := HP4.out.at (k := 2) (v := .int .i64 0) rfl
     have p3 := HP4.out.at (k := 3) (v := .int .u64 0) rfl
     have p4 := HP4.out.at (k := 4) (v := .int .u64 0) rfl
     go_wp2
     go_ret
     exact ⟨by simp,HB4.out⟩
    | true =>
     cases z3' with
     | false =>
      go_upto_region 69 with (fail)
      have HP4 := hid (HP3.out.set (k := 1) (.int .i64 a))
      have HB4 := hid (HB3.out.setCell (p := ⟨gp,1,none⟩) (Nat.le_of_lt HG.out) (.int .i64 a))
      have HX4 := hid (HX3.out.below ((Below.refl gp W3).setCell (p := ⟨gp,1,none⟩) (Nat.le_refl _) (.int .i64 a)) HG.out)
      clear y0 y1 y2 y3 y4 y5 y6 y7 y8 p1 p2 p3 p4 r2 f1
      generalize (W3.setCell ⟨gp,1,none⟩ (.int .i64 a)) = W4 at *
      have y1 := HX4.out.at (k := 1) (v := .int .i64 a) rfl
      have y2 := HX4.out.at (k := 2) (v := .int .i64 b) rfl
      have y3 := HX4.out.at (k := 3) (v := .int .u64 (n : Nat)) rfl
      have y4 := HX4.out.at (k := 4) (v := .int .u64 (h : Nat)) rfl
      have p1 := HP4.out.at (k := 1) (v := .int .i64 a) rfl
      have p2 := HP4.out.at (k := 2) (v := .int .i64 0) rfl
      have p3 := HP4.out.at (k := 3) (v := .int .u64 0) rfl
      have p4 := HP4.out.at (k := 4) (v := .int .u64 0) rfl
      go_wp2
      go_ret
      exact ⟨by simp,HB4.out⟩
     | true =>
      cases z4' with
      | false =>
       go_upto_region 69 with (fail)
       have HP4 := hid (HP3.out.set (k := 1) (.int .i64 a))
       have HB4 := hid (HB3.out.setCell (p := ⟨gp,1,none⟩) (Nat.le_of_lt HG.out) (.int .i64 a))
       have HX4 := hid (HX3.out.below ((Below.refl gp W3).setCell (p := ⟨gp,1,none⟩) (Nat.le_refl _) (.int .i64 a)) HG.out)
       clear y0 y1 y2 y3 y4 y5 y6 y7 y8 p1 p2 p3 p4 r2 f1
       generalize (W3.setCell ⟨gp,1,none⟩ (.int .i64 a)) = W4 at *
       have y1 := HX4.out.at (k := 1) (v := .int .i64 a) rfl
       have y2 := HX4.out.at (k := 2) (v := .int .i64 b) rfl
       have y3 := HX4.out.at (k := 3) (v := .int .u64 (n : Nat)) rfl
       have y4 := HX4.out.at (k := 4) (v := .int .u64 (h : Nat)) rfl
       have p1 := HP4.out.at (k := 1) (v := .int .i64 a) rfl
       have p2 := HP4.out.at (k := 2) (v := .int .i64 0) rfl
       have p3 := HP4.out.at (k := 3) (v := .int .u64 0) rfl
       have p4 := HP4.out.at (k := 4) (v := .int .u64 0) rfl
       go_wp2
       go_ret
       exact ⟨by simp,HB4.out⟩
      | true =>
       go_upto_region 69 with (fail)
       have HP4 := hid (HP3.out.set (k := 1) (.int .i64 a))
       have HB4 := hid (HB3.out.setCell (p := ⟨gp,1,none⟩) (Nat.le_of_lt HG.out) (.int .i64 a))
       have HX4 := hid (HX3.out.below ((Below.refl gp W3).setCell (p := ⟨gp,1,none⟩) (Nat.le_refl _) (.int .i64 a)) HG.out)
       clear y0 y1 y2 y3 y4 y5 y6 y7 y8 p1 p2 p3 p4 r2 f1
       generalize (W3.setCell ⟨gp,1,none⟩ (.int .i64 a)) = W4 at *
       have y1 := HX4.out.at (k := 1) (v := .int .i64 a) rfl
       have y2 := HX4.out.at (k := 2) (v := .int .i64 b) rfl
       have y3 := HX4.out.at (k := 3) (v := .int .u64 (n : Nat)) rfl
       have y4 := HX4.out.at (k := 4) (v := .int .u64 (h : Nat)) rfl
       have p1 := HP4.out.at (k := 1) (v := .int .i64 a) rfl
       have p2 := HP4.out.at (k := 2) (v := .int .i64 0) rfl
       have p3 := HP4.out.at (k := 3) (v := .int .u64 0) rfl
       have p4 := HP4.out.at (k := 4) (v := .int .u64 0) rfl
       go_wp2
       go_ret
       exact ⟨by simp,HB4.out⟩
set_option maxHeartbeats 8000000 in
theorem one_18 (op a b : Int) (n h : Nat) (l : List Int) (nl : Nat) (hnl : nl = l.length) (pl pb pe : Option Addr) (cl nb cb ne ce : Nat) (ot : Bool) (B : Nat) (w : World) (hB : B ≤ w.heap.size) (hl : LI B w (.slice pl nl cl) l)
  (c0 : Int) (v1 v3 v4 : List UInt8) (v5 : Bool) (hc0 : decide (c0 < 0) = false) (hk : ∀ W,Calls Tryz.prog 153 #[.int .i64 op] W fun e w' => e = .returned (.agg #[.int .i64 c0,.string (str v1),.int .i64 18,.string (str v3),.string (str v4),.bool v5]) ∧ Below W.heap.size W w') :
  Calls Tryz.prog 209 #[.agg #[.int .i64 op,.int .i64 a,.int .i64 b,.int .u64 (n : Nat),.int .u64 (h : Nat),.slice pl nl cl,.slice pb nb cb,.slice pe ne ce,.bool ot]] w fun e w' => e = .returned (.bool (!(decide (0 < nb) || decide (0 < ne) || ot) && (idxR a && ((nl : Int) == 0) && (b == 0) && ((n : Int) == 0) && ((h : Int) == 0)))) ∧ Below w.heap.size w w' := by
 have HK := fun W => hid (hk W)
 have HIA := fun W => hid (RIndex_says a W)
 have HIB := fun W => hid (RIndex_says b W)
 have HVB := fun W => hid (RVal_says b W)
 have HRA := fun W => hid (RRef_says a W)
 generalize idxR a = ia at *
 generalize idxR b = ib at *
 generalize valB b = vb at *
 generalize refB a = ra at *
 have HLV := fun W (hW : Below B w W) => hid (RVals_says l (.slice pl nl cl) B W (hl.below hW))
 generalize l.all valB = lv at *
 have HBX := hid ((Below.refl w.heap.size w).alloc (Nat.le_refl _) (.cells #[.int .i64 op,.int .i64 a,.int .i64 b,.int .u64 (n : Nat),.int .u64 (h : Nat),.slice pl nl cl,.slice pb nb cb,.slice pe ne ce,.bool ot] 39))
 have HX := hid (CA.new w #[.int .i64 op,.int .i64 a,.int .i64 b,.int .u64 (n : Nat),.int .u64 (h : Nat),.slice pl nl cl,.slice pb nb cb,.slice pe ne ce,.bool ot] 39)
 clear hk hl hnl
 obtain ⟨p1,dp1⟩ : ∃ x,decide (0 < nb) = x := ⟨_,rfl⟩
 rw [dp1]
 obtain ⟨p2,dp2⟩ : ∃ x,decide (0 < ne) = x := ⟨_,rfl⟩
 rw [dp2]
 obtain ⟨q_l0,d_l0⟩ : ∃ x,((nl : Int) == 0) = x := ⟨_,rfl⟩
 rw [d_l0]
 obtain ⟨z2',e2⟩ : ∃ x,(b == 0) = x := ⟨_,rfl⟩
 rw [e2]
 obtain ⟨z3',e3⟩ : ∃ x,((n : Int) == 0) = x := ⟨_,rfl⟩
 rw [e3]
 obtain ⟨z4',e4⟩ : ∃ x,((h : Int) == 0) = x := ⟨_,rfl⟩
 rw [e4]
 have s1 : (a == a) = true := beq_self_eq_true _
 go_enter Tryz.func209,Tryz.ntmps209
 go_upto_region 2 with (go_at_call 153; (with_reducible refine (HK _).out.mono ?_); rintro e w1 ⟨rfl,hb1⟩; have HB1 := hid (HBX.out.trans (hb1.mono HBX.out.size)); have HX1 := hid (HX.out.below hb1 HX.out.lt); clear hb1)
 have HX2 := hid (HX1.out.alloc (.cells #[.int .i64 c0,.string (str v1),.int .i64 18,.string (str v3),.string (str v4),.bool v5] 172))
 have HR2 := hid (CA.new w1 #[.int .i64 c0,.string (str v1),.int .i64 18,.string (str v3),.string (str v4),.bool v5] 172)
 have HB2 := hid (HB1.out.alloc HB1.out.size (.cells #[.int .i64 c0,.string (str v1),.int .i64 18,.string (str v3),.string (str v4),.bool v5] 172))
 generalize w1.alloc (.cells #[.int .i64 c0,.string (str v1),.int .i64 18,.string (str v3),.string (str v4),.bool v5] 172) = W2 at *
 obtain ⟨gr,hgr⟩ : ∃ g,g = w1.heap.size := ⟨_,rfl⟩
 rw [← hgr] at HR2 ⊢
 clear hgr HX1 HB1 HX HBX
 obtain ⟨y0,y1,y2,y3,y4,y5,y6,y7,y8⟩ := ca9 HX2.out
 have r0 := HR2.out.at (k := 0) (v := .int .i64 c0) rfl
 have r2 := HR2.out.at (k := 2) (v := .int .i64 18) rfl
 rcases (show p1 = true ∨ (p1 = false ∧ p2 = true) ∨ (p1 = false ∧ p2 = false ∧ ot = true) ∨ (p1 = false ∧ p2 = false ∧ ot = false) by cases p1 <;> cases p2 <;> cases ot <;> simp) with rfl | ⟨rfl,rfl⟩ | ⟨rfl,rfl,rfl⟩ | ⟨rfl,rfl,rfl⟩
 ·go_wp2
  go_ret
  exact ⟨by simp,HB2.out⟩
 ·go_wp2
  go_ret
  exact ⟨by simp,HB2.out⟩
 ·go_wp2
  go_ret
  exact ⟨by simp,HB2.out⟩
 ·go_upto_region 12 with (first
   | (go_at_call 52; (with_reducible refine (HIA _).out.mono ?_); rintro e w3 ⟨rfl,rfl⟩)
   | (go_at_call 52; (with_reducible refine (HIB _).out.mono ?_); rintro e w3 ⟨rfl,rfl⟩)
   | (go_at_call 56; (with_reducible refine (HVB _).out.mono ?_); rintro e w3 ⟨rfl,rfl⟩)
   | (go_at_call 154; (with_reducible refine (HRA _).out.mono ?_); rintro e w3 ⟨rfl,rfl⟩)
   | (go_at_call 50; (with_reducible refine (HLV _ (HB2.out.mono hB)).out.mono ?_); rintro e w3 ⟨rfl,rfl⟩))
  have HP3 := hid (CA.new W2 #[.int .i64 op,.int .i64 0,.int .i64 0,.int .u64 0,.int .u64 0,.slice none 0 0,.slice none 0 0,.slice none 0 0,.bool false] 39)
  have HK3 := hid ((Below.refl W2.heap.size W2).alloc (Nat.le_refl _) (.cells #[.int .i64 op,.int .i64 0,.int .i64 0,.int .u64 0,.int .u64 0,.slice none 0 0,.slice none 0 0,.slice none 0 0,.bool false] 39))
  have HX3 := hid (HX2.out.below HK3.out HX2.out.lt)
  have HR3 := hid (HR2.out.below HK3.out HR2.out.lt)
  have HB3 := hid (HB2.out.alloc HB2.out.size (.cells #[.int .i64 op,.int .i64 0,.int .i64 0,.int .u64 0,.int .u64 0,.slice none 0 0,.slice none 0 0,.slice none 0 0,.bool false] 39))
  have HG := hid HX2.out.lt
  clear y0 y1 y2 y3 y4 y5 y6 y7 y8 r0 r2
  generalize W2.alloc (.cells #[.int .i64 op,.int .i64 0,.int .i64 0,.int .u64 0,.int .u64 0,.slice none 0 0,.slice none 0 0,.slice none 0 0,.bool false] 39) = W3 at *
  obtain ⟨gp,hgp⟩ : ∃ g,g = W2.heap.size := ⟨_,rfl⟩
  rw [← hgp] at HP3 HG ⊢
  clear hgp HX2 HR2 HB2 HK3
  obtain ⟨y0,y1,y2,y3,y4,y5,y6,y7,y8⟩ := ca9 HX3.out
  have r2 := HR3.out.at (k := 2) (v := .int .i64 18) rfl
  have f1 := HP3.out.free 1
  have p1 := HP3.out.at (k := 1) (v := .int .i64 0) rfl
  have p2 := HP3.out.at (k := 2) (v := .int .i64 0) rfl
  have p3 := HP3.out.at (k := 3) (v := .int .u64 0) rfl
  have p4 := HP3.out.at (k := 4) (v := .int .u64 0) rfl
  cases ia with
  | false =>
   go_upto_region 69 with (fail)
   have HP4 := hid (HP3.out.set (k := 1) (.int .i64 a))
   have HB4 := hid (HB3.out.setCell (p := ⟨gp,1,none⟩) (Nat.le_of_lt HG.out) (.int .i64 a))
   have HX4 := hid (HX3.out.below ((Below.refl gp W3).setCell (p := ⟨gp,1,none⟩) (Nat.le_refl _) (.int .i64 a)) HG.out)
   clear y0 y1 y2 y3 y4 y5 y6 y7 y8 p1 p2 p3 p4 r2 f1
   generalize (W3.setCell ⟨gp,1,none⟩ (.int .i64 a)) = W4 at *
   go_wp2
   go_ret
   exact ⟨by simp,HB4.out⟩
  | true =>
   cases q_l0 with
   | false =>
    go_upto_region 69 with (fail)
    have HP4 := hid (HP3.out.set (k := 1) (.int .i64 a))
    have HB4 := hid (HB3.out.setCell (p := ⟨gp,1,none⟩) (Nat.le_of_lt HG.out) (.int .i64 a))
    have HX4 := hid (HX3.out.below ((Below.refl gp W3).setCell (p := ⟨gp,1,none⟩) (Nat.le_refl _) (.int .i64 a)) HG.out)
    clear y0 y1 y2 y3 y4 y5 y6 y7 y8 p1 p2 p3 p4 r2 f1
    generalize (W3.setCell ⟨gp,1,none⟩ (.int .i64 a)) = W4 at *
    go_wp2
    go_ret
    exact ⟨by simp,HB4.out⟩
   | true =>
    cases z2' with
    | false =>
     go_upto_region 69 with (fail)
     have HP4 := hid (HP3.out.set (k := 1) (.int .i64 a))
     have HB4 := hid (HB3.out.setCell (p := ⟨gp,1,none⟩) (Nat.le_of_lt HG.out) (.int .i64 a))
     have HX4 := hid (HX3.out.below ((Below.refl gp W3).setCell (p := ⟨gp,1,none⟩) (Nat.le_refl _) (.int .i64 a)) HG.out)
     clear y0 y1 y2 y3 y4 y5 y6 y7 y8 p1 p2 p3 p4 r2 f1
     generalize (W3.setCell ⟨gp,1,none⟩ (.int .i64 a)) = W4 at *
     have y1 := HX4.out.at (k := 1) (v := .int .i64 a) rfl
     have y2 := HX4.out.at (k := 2) (v := .int .i64 b) rfl
     have y3 := HX4.out.at (k := 3) (v := .int .u64 (n : Nat)) rfl
     have y4 := HX4.out.at (k := 4) (v := .int .u64 (h : Nat)) rfl
     have p1 := HP4.out.at (k := 1) (v := .int .i64 a) rfl
     have p2 := HP4.out.at (k := 2) (v := .int .i64 0) rfl
     have p3 := HP4.out.at (k := 3) (v := .int .u64 0) rfl
     have p4 := HP4.out.at (k := 4) (v := .int .u64 0) rfl
     go_wp2
     go_ret
     exact ⟨by simp,HB4.out⟩
    | true =>
     cases z3' with
     | false =>
      go_upto_region 69 with (fail)
      have HP4 := hid (HP3.out.set (k := 1) (.int .i64 a))
      have HB4 := hid (HB3.out.setCell (p := ⟨gp,1,none⟩) (Nat.le_of_lt HG.out) (.int .i64 a))
      have HX4 := hid (HX3.out.below ((Below.refl gp W3).setCell (p := ⟨gp,1,none⟩) (Nat.le_refl _) (.int .i64 a)) HG.out)
      clear y0 y1 y2 y3 y4 y5 y6 y7 y8 p1 p2 p3 p4 r2 f1
      generalize (W3.setCell ⟨gp,1,none⟩ (.int .i64 a)) = W4 at *
      have y1 := HX4.out.at (k := 1) (v := .int .i64 a) rfl
      have y2 := HX4.out.at (k := 2) (v := .int .i64 b) rfl
      have y3 := HX4.out.at (k := 3) (v := .int .u64 (n : Nat)) rfl
      have y4 := HX4.out.at (k := 4) (v := .int .u64 (h : Nat)) rfl
      have p1 := HP4.out.at (k := 1) (v := .int .i64 a) rfl
      have p2 := HP4.out.at (k := 2) (v := .int .i64 0) rfl
      have p3 := HP4.out.at (k := 3) (v := .int .u64 0) rfl
      have p4 := HP4.out.at (k := 4) (v := .int .u64 0) rfl
      go_wp2
      go_ret
      exact ⟨by simp,HB4.out⟩
     | true =>
      cases z4' with
      | false =>
       go_upto_region 69 with (fail)
       have HP4 := hid (HP3.out.set (k := 1) (.int .i64 a))
       have HB4 := hid (HB3.out.setCell (p := ⟨gp,1,none⟩) (Nat.le_of_lt HG.out) (.int .i64 a))
       have HX4 := hid (HX3.out.below ((Below.refl gp W3).setCell (p := ⟨gp,1,none⟩) (Nat.le_refl _) (.int .i64 a)) HG.out)
       clear y0 y1 y2 y3 y4 y5 y6 y7 y8 p1 p2 p3 p4 r2 f1
       generalize (W3.setCell ⟨gp,1,none⟩ (.int .i64 a)) = W4 at *
       have y1 := HX4.out.at (k := 1) (v := .int .i64 a) rfl
       have y2 := HX4.out.at (k := 2) (v := .int .i64 b) rfl
       have y3 := HX4.out.at (k := 3) (v := .int .u64 (n : Nat)) rfl
       have y4 := HX4.out.at (k := 4) (v := .int .u64 (h : Nat)) rfl
       have p1 := HP4.out.at (k := 1) (v := .int .i64 a) rfl
       have p2 := HP4.out.at (k := 2) (v := .int .i64 0) rfl
       have p3 := HP4.out.at (k := 3) (v := .int .u64 0) rfl
       have p4 := HP4.out.at (k := 4) (v := .int .u64 0) rfl
       go_wp2
       go_ret
       exact ⟨by simp,HB4.out⟩
      | true =>
       go_upto_region 69 with (fail)
       have HP4 := hid (HP3.out.set (k := 1) (.int .i64 a))
       have HB4 := hid (HB3.out.setCell (p := ⟨gp,1,none⟩) (Nat.le_of_lt HG.out) (.int .i64 a))
       have HX4 := hid (HX3.out.below ((Below.refl gp W3).setCell (p := ⟨gp,1,none⟩) (Nat.le_refl _) (.int .i64 a)) HG.out)
       clear y0 y1 y2 y3 y4 y5 y6 y7 y8 p1 p2 p3 p4 r2 f1
       generalize (W3.setCell ⟨gp,1,none⟩ (.int .i64 a)) = W4 at *
       have y1 := HX4.out.at (k := 1) (v := .int .i64 a) rfl
       have y2 := HX4.out.at (k := 2) (v := .int .i64 b) rfl
       have y3 := HX4.out.at (k := 3) (v := .int .u64 (n : Nat)) rfl
       have y4 := HX4.out.at (k := 4) (v := .int .u64 (h : Nat)) rfl
       have p1 := HP4.out.at (k := 1) (v := .int .i64 a) rfl
       have p2 := HP4.out.at (k := 2) (v := .int .i64 0) rfl
       have p3 := HP4.out.at (k := 3) (v := .int .u64 0) rfl
       have p4 := HP4.out.at (k := 4) (v := .int .u64 0) rfl
       go_wp2
       go_ret
       exact ⟨by simp,HB4.out⟩
set_option maxHeartbeats 8000000 in
theorem one_21 (op a b : Int) (n h : Nat) (l : List Int) (nl : Nat) (hnl : nl = l.length) (pl pb pe : Option Addr) (cl nb cb ne ce : Nat) (ot : Bool) (B : Nat) (w : World) (hB : B ≤ w.heap.size) (hl : LI B w (.slice pl nl cl) l)
  (c0 : Int) (v1 v3 v4 : List UInt8) (v5 : Bool) (hc0 : decide (c0 < 0) = false) (hk : ∀ W,Calls Tryz.prog 153 #[.int .i64 op] W fun e w' => e = .returned (.agg #[.int .i64 c0,.string (str v1),.int .i64 21,.string (str v3),.string (str v4),.bool v5]) ∧ Below W.heap.size W w') :
  Calls Tryz.prog 209 #[.agg #[.int .i64 op,.int .i64 a,.int .i64 b,.int .u64 (n : Nat),.int .u64 (h : Nat),.slice pl nl cl,.slice pb nb cb,.slice pe ne ce,.bool ot]] w fun e w' => e = .returned (.bool (!(decide (0 < nb) || decide (0 < ne) || ot) && (idxR a && ((nl : Int) == 0) && (b == 0) && ((n : Int) == 0) && ((h : Int) == 0)))) ∧ Below w.heap.size w w' := by
 have HK := fun W => hid (hk W)
 have HIA := fun W => hid (RIndex_says a W)
 have HIB := fun W => hid (RIndex_says b W)
 have HVB := fun W => hid (RVal_says b W)
 have HRA := fun W => hid (RRef_says a W)
 generalize idxR a = ia at *
 generalize idxR b = ib at *
 generalize valB b = vb at *
 generalize refB a = ra at *
 have HLV := fun W (hW : Below B w W) => hid (RVals_says l (.slice pl nl cl) B W (hl.below hW))
 generalize l.all valB = lv at *
 have HBX := hid ((Below.refl w.heap.size w).alloc (Nat.le_refl _) (.cells #[.int .i64 op,.int .i64 a,.int .i64 b,.int .u64 (n : Nat),.int .u64 (h : Nat),.slice pl nl cl,.slice pb nb cb,.slice pe ne ce,.bool ot] 39))
 have HX := hid (CA.new w #[.int .i64 op,.int .i64 a,.int .i64 b,.int .u64 (n : Nat),.int .u64 (h : Nat),.slice pl nl cl,.slice pb nb cb,.slice pe ne ce,.bool ot] 39)
 clear hk hl hnl
 obtain ⟨p1,dp1⟩ : ∃ x,decide (0 < nb) = x := ⟨_,rfl⟩
 rw [dp1]
 obtain ⟨p2,dp2⟩ : ∃ x,decide (0 < ne) = x := ⟨_,rfl⟩
 rw [dp2]
 obtain ⟨q_l0,d_l0⟩ : ∃ x,((nl : Int) == 0) = x := ⟨_,rfl⟩
 rw [d_l0]
 obtain ⟨z2',e2⟩ : ∃ x,(b == 0) = x := ⟨_,rfl⟩
 rw [e2]
 obtain ⟨z3',e3⟩ : ∃ x,((n : Int) == 0) = x := ⟨_,rfl⟩
 rw [e3]
 obtain ⟨z4',e4⟩ : ∃ x,((h : Int) == 0) = x := ⟨_,rfl⟩
 rw [e4]
 have s1 : (a == a) = true := beq_self_eq_true _
 go_enter Tryz.func209,Tryz.ntmps209
 go_upto_region 2 with (go_at_call 153; (with_reducible refine (HK _).out.mono ?_); rintro e w1 ⟨rfl,hb1⟩; have HB1 := hid (HBX.out.trans (hb1.mono HBX.out.size)); have HX1 := hid (HX.out.below hb1 HX.out.lt); clear hb1)
 have HX2 := hid (HX1.out.alloc (.cells #[.int .i64 c0,.string (str v1),.int .i64 21,.string (str v3),.string (str v4),.bool v5] 172))
 have HR2 := hid (CA.new w1 #[.int .i64 c0,.string (str v1),.int .i64 21,.string (str v3),.string (str v4),.bool v5] 172)
 have HB2 := hid (HB1.out.alloc HB1.out.size (.cells #[.int .i64 c0,.string (str v1),.int .i64 21,.string (str v3),.string (str v4),.bool v5] 172))
 generalize w1.alloc (.cells #[.int .i64 c0,.string (str v1),.int .i64 21,.string (str v3),.string (str v4),.bool v5] 172) = W2 at *
 obtain ⟨gr,hgr⟩ : ∃ g,g = w1.heap.size := ⟨_,rfl⟩
 rw [← hgr] at HR2 ⊢
 clear hgr HX1 HB1 HX HBX
 obtain ⟨y0,y1,y2,y3,y4,y5,y6,y7,y8⟩ := ca9 HX2.out
 have r0 := HR2.out.at (k := 0) (v := .int .i64 c0) rfl
 have r2 := HR2.out.at (k := 2) (v := .int .i64 21) rfl
 rcases (show p1 = true ∨ (p1 = false ∧ p2 = true) ∨ (p1 = false ∧ p2 = false ∧ ot = true) ∨ (p1 = false ∧ p2 = false ∧ ot = false) by cases p1 <;> cases p2 <;> cases ot <;> simp) with rfl | ⟨rfl,rfl⟩ | ⟨rfl,rfl,rfl⟩ | ⟨rfl,rfl,rfl⟩
 ·go_wp2
  go_ret
  exact ⟨by simp,HB2.out⟩
 ·go_wp2
  go_ret
  exact ⟨by simp,HB2.out⟩
 ·go_wp2
  go_ret
  exact ⟨by simp,HB2.out⟩
 ·go_upto_region 12 with (first
   | (go_at_call 52; (with_reducible refine (HIA _).out.mono ?_); rintro e w3 ⟨rfl,rfl⟩)
   | (go_at_call 52; (with_reducible refine (HIB _).out.mono ?_); rintro e w3 ⟨rfl,rfl⟩)
   | (go_at_call 56; (with_reducible refine (HVB _).out.mono ?_); rintro e w3 ⟨rfl,rfl⟩)
   | (go_at_call 154; (with_reducible refine (HRA _).out.mono ?_); rintro e w3 ⟨rfl,rfl⟩)
   | (go_at_call 50; (with_reducible refine (HLV _ (HB2.out.mono hB)).out.mono ?_); rintro e w3 ⟨rfl,rfl⟩))
  have HP3 := hid (CA.new W2 #[.int .i64 op,.int .i64 0,.int .i64 0,.int .u64 0,.int .u64 0,.slice none 0 0,.slice none 0 0,.slice none 0 0,.bool false] 39)
  have HK3 := hid ((Below.refl W2.heap.size W2).alloc (Nat.le_refl _) (.cells #[.int .i64 op,.int .i64 0,.int .i64 0,.int .u64 0,.int .u64 0,.slice none 0 0,.slice none 0 0,.slice none 0 0,.bool false] 39))
  have HX3 := hid (HX2.out.below HK3.out HX2.out.lt)
  have HR3 := hid (HR2.out.below HK3.out HR2.out.lt)
  have HB3 := hid (HB2.out.alloc HB2.out.size (.cells #[.int .i64 op,.int .i64 0,.int .i64 0,.int .u64 0,.int .u64 0,.slice none 0 0,.slice none 0 0,.slice none 0 0,.bool false] 39))
  have HG := hid HX2.out.lt
  clear y0 y1 y2 y3 y4 y5 y6 y7 y8 r0 r2
  generalize W2.alloc (.cells #[.int .i64 op,.int .i64 0,.int .i64 0,.int .u64 0,.int .u64 0,.slice none 0 0,.slice none 0 0,.slice none 0 0,.bool false] 39) = W3 at *
  obtain ⟨gp,hgp⟩ : ∃ g,g = W2.heap.size := ⟨_,rfl⟩
  rw [← hgp] at HP3 HG ⊢
  clear hgp HX2 HR2 HB2 HK3
  obtain ⟨y0,y1,y2,y3,y4,y5,y6,y7,y8⟩ := ca9 HX3.out
  have r2 := HR3.out.at (k := 2) (v := .int .i64 21) rfl
  have f1 := HP3.out.free 1
  have p1 := HP3.out.at (k := 1) (v := .int .i64 0) rfl
  have p2 := HP3.out.at (k := 2) (v := .int .i64 0) rfl
  have p3 := HP3.out.at (k := 3) (v := .int .u64 0) rfl
  have p4 := HP3.out.at (k := 4) (v := .int .u64 0) rfl
  cases ia with
  | false =>
   go_upto_region 69 with (fail)
   have HP4 := hid (HP3.out.set (k := 1) (.int .i64 a))
   have HB4 := hid (HB3.out.setCell (p := ⟨gp,1,none⟩) (Nat.le_of_lt HG.out) (.int .i64 a))
   have HX4 := hid (HX3.out.below ((Below.refl gp W3).setCell (p := ⟨gp,1,none⟩) (Nat.le_refl _) (.int .i64 a)) HG.out)
   clear y0 y1 y2 y3 y4 y5 y6 y7 y8 p1 p2 p3 p4 r2 f1
   generalize (W3.setCell ⟨gp,1,none⟩ (.int .i64 a)) = W4 at *
   go_wp2
   go_ret
   exact ⟨by simp,HB4.out⟩
  | true =>
   cases q_l0 with
   | false =>
    go_upto_region 69 with (fail)
    have HP4 := hid (HP3.out.set (k := 1) (.int .i64 a))
    have HB4 := hid (HB3.out.setCell (p := ⟨gp,1,none⟩) (Nat.le_of_lt HG.out) (.int .i64 a))
    have HX4 := hid (HX3.out.below ((Below.refl gp W3).setCell (p := ⟨gp,1,none⟩) (Nat.le_refl _) (.int .i64 a)) HG.out)
    clear y0 y1 y2 y3 y4 y5 y6 y7 y8 p1 p2 p3 p4 r2 f1
    generalize (W3.setCell ⟨gp,1,none⟩ (.int .i64 a)) = W4 at *
    go_wp2
    go_ret
    exact ⟨by simp,HB4.out⟩
   | true =>
    cases z2' with
    | false =>
     go_upto_region 69 with (fail)
     have HP4 := hid (HP3.out.set (k := 1) (.int .i64 a))
     have HB4 := hid (HB3.out.setCell (p := ⟨gp,1,none⟩) (Nat.le_of_lt HG.out) (.int .i64 a))
     have HX4 := hid (HX3.out.below ((Below.refl gp W3).setCell (p := ⟨gp,1,none⟩) (Nat.le_refl _) (.int .i64 a)) HG.out)
     clear y0 y1 y2 y3 y4 y5 y6 y7 y8 p1 p2 p3 p4 r2 f1
     generalize (W3.setCell ⟨gp,1,none⟩ (.int .i64 a)) = W4 at *
     have y1 := HX4.out.at (k := 1) (v := .int .i64 a) rfl
     have y2 := HX4.out.at (k := 2) (v := .int .i64 b) rfl
     have y3 := HX4.out.at (k := 3) (v := .int .u64 (n : Nat)) rfl
     have y4 := HX4.out.at (k := 4) (v := .int .u64 (h : Nat)) rfl
     have p1 := HP4.out.at (k := 1) (v := .int .i64 a) rfl
     have p2 := HP4.out.at (k := 2) (v := .int .i64 0) rfl
     have p3 := HP4.out.at (k := 3) (v := .int .u64 0) rfl
     have p4 := HP4.out.at (k := 4) (v := .int .u64 0) rfl
     go_wp2
     go_ret
     exact ⟨by simp,HB4.out⟩
    | true =>
     cases z3' with
     | false =>
      go_upto_region 69 with (fail)
      have HP4 := hid (HP3.out.set (k := 1) (.int .i64 a))
      have HB4 := hid (HB3.out.setCell (p := ⟨gp,1,none⟩) (Nat.le_of_lt HG.out) (.int .i64 a))
      have HX4 := hid (HX3.out.below ((Below.refl gp W3).setCell (p := ⟨gp,1,none⟩) (Nat.le_refl _) (.int .i64 a)) HG.out)
      clear y0 y1 y2 y3 y4 y5 y6 y7 y8 p1 p2 p3 p4 r2 f1
      generalize (W3.setCell ⟨gp,1,none⟩ (.int .i64 a)) = W4 at *
      have y1 := HX4.out.at (k := 1) (v := .int .i64 a) rfl
      have y2 := HX4.out.at (k := 2) (v := .int .i64 b) rfl
      have y3 := HX4.out.at (k := 3) (v := .int .u64 (n : Nat)) rfl
      have y4 := HX4.out.at (k := 4) (v := .int .u64 (h : Nat)) rfl
      have p1 := HP4.out.at (k := 1) (v := .int .i64 a) rfl
      have p2 := HP4.out.at (k := 2) (v := .int .i64 0) rfl
      have p3 := HP4.out.at (k := 3) (v := .int .u64 0) rfl
      have p4 := HP4.out.at (k := 4) (v := .int .u64 0) rfl
      go_wp2
      go_ret
      exact ⟨by simp,HB4.out⟩
     | true =>
      cases z4' with
      | false =>
       go_upto_region 69 with (fail)
       have HP4 := hid (HP3.out.set (k := 1) (.int .i64 a))
       have HB4 := hid (HB3.out.setCell (p := ⟨gp,1,none⟩) (Nat.le_of_lt HG.out) (.int .i64 a))
       have HX4 := hid (HX3.out.below ((Below.refl gp W3).setCell (p := ⟨gp,1,none⟩) (Nat.le_refl _) (.int .i64 a)) HG.out)
       clear y0 y1 y2 y3 y4 y5 y6 y7 y8 p1 p2 p3 p4 r2 f1
       generalize (W3.setCell ⟨gp,1,none⟩ (.int .i64 a)) = W4 at *
       have y1 := HX4.out.at (k := 1) (v := .int .i64 a) rfl
       have y2 := HX4.out.at (k := 2) (v := .int .i64 b) rfl
       have y3 := HX4.out.at (k := 3) (v := .int .u64 (n : Nat)) rfl
       have y4 := HX4.out.at (k := 4) (v := .int .u64 (h : Nat)) rfl
       have p1 := HP4.out.at (k := 1) (v := .int .i64 a) rfl
       have p2 := HP4.out.at (k := 2) (v := .int .i64 0) rfl
       have p3 := HP4.out.at (k := 3) (v := .int .u64 0) rfl
       have p4 := HP4.out.at (k := 4) (v := .int .u64 0) rfl
       go_wp2
       go_ret
       exact ⟨by simp,HB4.out⟩
      | true =>
       go_upto_region 69 with (fail)
       have HP4 := hid (HP3.out.set (k := 1) (.int .i64 a))
       have HB4 := hid (HB3.out.setCell (p := ⟨gp,1,none⟩) (Nat.le_of_lt HG.out) (.int .i64 a))
       have HX4 := hid (HX3.out.below ((Below.refl gp W3).setCell (p := ⟨gp,1,none⟩) (Nat.le_refl _) (.int .i64 a)) HG.out)
       clear y0 y1 y2 y3 y4 y5 y6 y7 y8 p1 p2 p3 p4 r2 f1
       generalize (W3.setCell ⟨gp,1,none⟩ (.int .i64 a)) = W4 at *
       have y1 := HX4.out.at (k := 1) (v := .int .i64 a) rfl
       have y2 := HX4.out.at (k := 2) (v := .int .i64 b) rfl
       have y3 := HX4.out.at (k := 3) (v := .int .u64 (n : Nat)) rfl
       have y4 := HX4.out.at (k := 4) (v := .int .u64 (h : Nat)) rfl
       have p1 := HP4.out.at (k := 1) (v := .int .i64 a) rfl
       have p2 := HP4.out.at (k := 2) (v := .int .i64 0) rfl
       have p3 := HP4.out.at (k := 3) (v := .int .u64 0) rfl
       have p4 := HP4.out.at (k := 4) (v := .int .u64 0) rfl
       go_wp2
       go_ret
       exact ⟨by simp,HB4.out⟩
set_option maxHeartbeats 8000000 in
theorem one_16 (op a b : Int) (n h : Nat) (l : List Int) (nl : Nat) (hnl : nl = l.length) (pl pb pe : Option Addr) (cl nb cb ne ce : Nat) (ot : Bool) (B : Nat) (w : World) (hB : B ≤ w.heap.size) (hl : LI B w (.slice pl nl cl) l)
  (c0 : Int) (v1 v3 v4 : List UInt8) (v5 : Bool) (hc0 : decide (c0 < 0) = false) (hk : ∀ W,Calls Tryz.prog 153 #[.int .i64 op] W fun e w' => e = .returned (.agg #[.int .i64 c0,.string (str v1),.int .i64 16,.string (str v3),.string (str v4),.bool v5]) ∧ Below W.heap.size W w') :
  Calls Tryz.prog 209 #[.agg #[.int .i64 op,.int .i64 a,.int .i64 b,.int .u64 (n : Nat),.int .u64 (h : Nat),.slice pl nl cl,.slice pb nb cb,.slice pe ne ce,.bool ot]] w fun e w' => e = .returned (.bool (!(decide (0 < nb) || decide (0 < ne) || ot) && (refB a && ((nl : Int) == 0) && (b == 0) && ((n : Int) == 0) && ((h : Int) == 0)))) ∧ Below w.heap.size w w' := by
 have HK := fun W => hid (hk W)
 have HIA := fun W => hid (RIndex_says a W)
 have HIB := fun W => hid (RIndex_says b W)
 have HVB := fun W => hid (RVal_says b W)
 have HRA := fun W => hid (RRef_says a W)
 generalize idxR a = ia at *
 generalize idxR b = ib at *
 generalize valB b = vb at *
 generalize refB a = ra at *
 have HLV := fun W (hW : Below B w W) => hid (RVals_says l (.slice pl nl cl) B W (hl.below hW))
 generalize l.all valB = lv at *
 have HBX := hid ((Below.refl w.heap.size w).alloc (Nat.le_refl _) (.cells #[.int .i64 op,.int .i64 a,.int .i64 b,.int .u64 (n : Nat),.int .u64 (h : Nat),.slice pl nl cl,.slice pb nb cb,.slice pe ne ce,.bool ot] 39))
 have HX := hid (CA.new w #[.int .i64 op,.int .i64 a,.int .i64 b,.int .u64 (n : Nat),.int .u64 (h : Nat),.slice pl nl cl,.slice pb nb cb,.slice pe ne ce,.bool ot] 39)
 clear hk hl hnl
 obtain ⟨p1,dp1⟩ : ∃ x,decide (0 < nb) = x := ⟨_,rfl⟩
 rw [dp1]
 obtain ⟨p2,dp2⟩ : ∃ x,decide (0 < ne) = x := ⟨_,rfl⟩
 rw [dp2]
 obtain ⟨q_l0,d_l0⟩ : ∃ x,((nl : Int) == 0) = x := ⟨_,rfl⟩
 rw [d_l0]
 obtain ⟨z2',e2⟩ : ∃ x,(b == 0) = x := ⟨_,rfl⟩
 rw [e2]
 obtain ⟨z3',e3⟩ : ∃ x,((n : Int) == 0) = x := ⟨_,rfl⟩
 rw [e3]
 obtain ⟨z4',e4⟩ : ∃ x,((h : Int) == 0) = x := ⟨_,rfl⟩
 rw [e4]
 have s1 : (a == a) = true := beq_self_eq_true _
 go_enter Tryz.func209,Tryz.ntmps209
 go_upto_region 2 with (go_at_call 153; (with_reducible refine (HK _).out.mono ?_); rintro e w1 ⟨rfl,hb1⟩; have HB1 := hid (HBX.out.trans (hb1.mono HBX.out.size)); have HX1 := hid (HX.out.below hb1 HX.out.lt); clear hb1)
 have HX2 := hid (HX1.out.alloc (.cells #[.int .i64 c0,.string (str v1),.int .i64 16,.string (str v3),.string (str v4),.bool v5] 172))
 have HR2 := hid (CA.new w1 #[.int .i64 c0,.string (str v1),.int .i64 16,.string (str v3),.string (str v4),.bool v5] 172)
 have HB2 := hid (HB1.out.alloc HB1.out.size (.cells #[.int .i64 c0,.string (str v1),.int .i64 16,.string (str v3),.string (str v4),.bool v5] 172))
 generalize w1.alloc (.cells #[.int .i64 c0,.string (str v1),.int .i64 16,.string (str v3),.string (str v4),.bool v5] 172) = W2 at *
 obtain ⟨gr,hgr⟩ : ∃ g,g = w1.heap.size := ⟨_,rfl⟩
 rw [← hgr] at HR2 ⊢
 clear hgr HX1 HB1 HX HBX
 obtain ⟨y0,y1,y2,y3,y4,y5,y6,y7,y8⟩ := ca9 HX2.out
 have r0 := HR2.out.at (k := 0) (v := .int .i64 c0) rfl
 have r2 := HR2.out.at (k := 2) (v := .int .i64 16) rfl
 rcases (show p1 = true ∨ (p1 = false ∧ p2 = true) ∨ (p1 = false ∧ p2 = false ∧ ot = true) ∨ (p1 = false ∧ p2 = false ∧ ot = false) by cases p1 <;> cases p2 <;> cases ot <;> simp) with rfl | ⟨rfl,rfl⟩ | ⟨rfl,rfl,rfl⟩ | ⟨rfl,rfl,rfl⟩
 ·go_wp2
  go_ret
  exact ⟨by simp,HB2.out⟩
 ·go_wp2
  go_ret
  exact ⟨by simp,HB2.out⟩
 ·go_wp2
  go_ret
  exact ⟨by simp,HB2.out⟩
 ·go_upto_region 12 with (first
   | (go_at_call 52; (with_reducible refine (HIA _).out.mono ?_); rintro e w3 ⟨rfl,rfl⟩)
   | (go_at_call 52; (with_reducible refine (HIB _).out.mono ?_); rintro e w3 ⟨rfl,rfl⟩)
   | (go_at_call 56; (with_reducible refine (HVB _).out.mono ?_); rintro e w3 ⟨rfl,rfl⟩)
   | (go_at_call 154; (with_reducible refine (HRA _).out.mono ?_); rintro e w3 ⟨rfl,rfl⟩)
   | (go_at_call 50; (with_reducible refine (HLV _ (HB2.out.mono hB)).out.mono ?_); rintro e w3 ⟨rfl,rfl⟩))
  have HP3 := hid (CA.new W2 #[.int .i64 op,.int .i64 0,.int .i64 0,.int .u64 0,.int .u64 0,.slice none 0 0,.slice none 0 0,.slice none 0 0,.bool false] 39)
  have HK3 := hid ((Below.refl W2.heap.size W2).alloc (Nat.le_refl _) (.cells #[.int .i64 op,.int .i64 0,.int .i64 0,.int .u64 0,.int .u64 0,.slice none 0 0,.slice none 0 0,.slice none 0 0,.bool false] 39))
  have HX3 := hid (HX2.out.below HK3.out HX2.out.lt)
  have HR3 := hid (HR2.out.below HK3.out HR2.out.lt)
  have HB3 := hid (HB2.out.alloc HB2.out.size (.cells #[.int .i64 op,.int .i64 0,.int .i64 0,.int .u64 0,.int .u64 0,.slice none 0 0,.slice none 0 0,.slice none 0 0,.bool false] 39))
  have HG := hid HX2.out.lt
  clear y0 y1 y2 y3 y4 y5 y6 y7 y8 r0 r2
  generalize W2.alloc (.cells #[.int .i64 op,.int .i64 0,.int .i64 0,.int .u64 0,.int .u64 0,.slice none 0 0,.slice none 0 0,.slice none 0 0,.bool false] 39) = W3 at *
  obtain ⟨gp,hgp⟩ : ∃ g,g = W2.heap.size := ⟨_,rfl⟩
  rw [← hgp] at HP3 HG ⊢
  clear hgp HX2 HR2 HB2 HK3
  obtain ⟨y0,y1,y2,y3,y4,y5,y6,y7,y8⟩ := ca9 HX3.out
  have r2 := HR3.out.at (k := 2) (v := .int .i64 16) rfl
  have f1 := HP3.out.free 1
  have p1 := HP3.out.at (k := 1) (v := .int .i64 0) rfl
  have p2 := HP3.out.at (k := 2) (v := .int .i64 0) rfl
  have p3 := HP3.out.at (k := 3) (v := .int .u64 0) rfl
  have p4 := HP3.out.at (k := 4) (v := .int .u64 0) rfl
  cases ra with
  | false =>
   go_upto_region 69 with (fail)
   have HP4 := hid (HP3.out.set (k := 1) (.int .i64 a))
   have HB4 := hid (HB3.out.setCell (p := ⟨gp,1,none⟩) (Nat.le_of_lt HG.out) (.int .i64 a))
   have HX4 := hid (HX3.out.below ((Below.refl gp W3).setCell (p := ⟨gp,1,none⟩) (Nat.le_refl _) (.int .i64 a)) HG.out)
   clear y0 y1 y2 y3 y4 y5 y6 y7 y8 p1 p2 p3 p4 r2 f1
   generalize (W3.setCell ⟨gp,1,none⟩ (.int .i64 a)) = W4 at *
   go_wp2
   go_ret
   exact ⟨by simp,HB4.out⟩
  | true =>
   cases q_l0 with
   | false =>
    go_upto_region 69 with (fail)
    have HP4 := hid (HP3.out.set (k := 1) (.int .i64 a))
    have HB4 := hid (HB3.out.setCell (p := ⟨gp,1,none⟩) (Nat.le_of_lt HG.out) (.int .i64 a))
    have HX4 := hid (HX3.out.below ((Below.refl gp W3).setCell (p := ⟨gp,1,none⟩) (Nat.le_refl _) (.int .i64 a)) HG.out)
    clear y0 y1 y2 y3 y4 y5 y6 y7 y8 p1 p2 p3 p4 r2 f1
    generalize (W3.setCell ⟨gp,1,none⟩ (.int .i64 a)) = W4 at *
    go_wp2
    go_ret
    exact ⟨by simp,HB4.out⟩
   | true =>
    cases z2' with
    | false =>
     go_upto_region 69 with (fail)
     have HP4 := hid (HP3.out.set (k := 1) (.int .i64 a))
     have HB4 := hid (HB3.out.setCell (p := ⟨gp,1,none⟩) (Nat.le_of_lt HG.out) (.int .i64 a))
     have HX4 := hid (HX3.out.below ((Below.refl gp W3).setCell (p := ⟨gp,1,none⟩) (Nat.le_refl _) (.int .i64 a)) HG.out)
     clear y0 y1 y2 y3 y4 y5 y6 y7 y8 p1 p2 p3 p4 r2 f1
     generalize (W3.setCell ⟨gp,1,none⟩ (.int .i64 a)) = W4 at *
     have y1 := HX4.out.at (k := 1) (v := .int .i64 a) rfl
     have y2 := HX4.out.at (k := 2) (v := .int .i64 b) rfl
     have y3 := HX4.out.at (k := 3) (v := .int .u64 (n : Nat)) rfl
     have y4 := HX4.out.at (k := 4) (v := .int .u64 (h : Nat)) rfl
     have p1 := HP4.out.at (k := 1) (v := .int .i64 a) rfl
     have p2 := HP4.out.at (k := 2) (v := .int .i64 0) rfl
     have p3 := HP4.out.at (k := 3) (v := .int .u64 0) rfl
     have p4 := HP4.out.at (k := 4) (v := .int .u64 0) rfl
     go_wp2
     go_ret
     exact ⟨by simp,HB4.out⟩
    | true =>
     cases z3' with
     | false =>
      go_upto_region 69 with (fail)
      have HP4 := hid (HP3.out.set (k := 1) (.int .i64 a))
      have HB4 := hid (HB3.out.setCell (p := ⟨gp,1,none⟩) (Nat.le_of_lt HG.out) (.int .i64 a))
      have HX4 := hid (HX3.out.below ((Below.refl gp W3).setCell (p := ⟨gp,1,none⟩) (Nat.le_refl _) (.int .i64 a)) HG.out)
      clear y0 y1 y2 y3 y4 y5 y6 y7 y8 p1 p2 p3 p4 r2 f1
      generalize (W3.setCell ⟨gp,1,none⟩ (.int .i64 a)) = W4 at *
      have y1 := HX4.out.at (k := 1) (v := .int .i64 a) rfl
      have y2 := HX4.out.at (k := 2) (v := .int .i64 b) rfl
      have y3 := HX4.out.at (k := 3) (v := .int .u64 (n : Nat)) rfl
      have y4 := HX4.out.at (k := 4) (v := .int .u64 (h : Nat)) rfl
      have p1 := HP4.out.at (k := 1) (v := .int .i64 a) rfl
      have p2 := HP4.out.at (k := 2) (v := .int .i64 0) rfl
      have p3 := HP4.out.at (k := 3) (v := .int .u64 0) rfl
      have p4 := HP4.out.at (k := 4) (v := .int .u64 0) rfl
      go_wp2
      go_ret
      exact ⟨by simp,HB4.out⟩
     | true =>
      cases z4' with
      | false =>
       go_upto_region 69 with (fail)
       have HP4 := hid (HP3.out.set (k := 1) (.int .i64 a))
       have HB4 := hid (HB3.out.setCell (p := ⟨gp,1,none⟩) (Nat.le_of_lt HG.out) (.int .i64 a))
       have HX4 := hid (HX3.out.below ((Below.refl gp W3).setCell (p := ⟨gp,1,none⟩) (Nat.le_refl _) (.int .i64 a)) HG.out)
       clear y0 y1 y2 y3 y4 y5 y6 y7 y8 p1 p2 p3 p4 r2 f1
       generalize (W3.setCell ⟨gp,1,none⟩ (.int .i64 a)) = W4 at *
       have y1 := HX4.out.at (k := 1) (v := .int .i64 a) rfl
       have y2 := HX4.out.at (k := 2) (v := .int .i64 b) rfl
       have y3 := HX4.out.at (k := 3) (v := .int .u64 (n : Nat)) rfl
       have y4 := HX4.out.at (k := 4) (v := .int .u64 (h : Nat)) rfl
       have p1 := HP4.out.at (k := 1) (v := .int .i64 a) rfl
       have p2 := HP4.out.at (k := 2) (v := .int .i64 0) rfl
       have p3 := HP4.out.at (k := 3) (v := .int .u64 0) rfl
       have p4 := HP4.out.at (k := 4) (v := .int .u64 0) rfl
       go_wp2
       go_ret
       exact ⟨by simp,HB4.out⟩
      | true =>
       go_upto_region 69 with (fail)
       have HP4 := hid (HP3.out.set (k := 1) (.int .i64 a))
       have HB4 := hid (HB3.out.setCell (p := ⟨gp,1,none⟩) (Nat.le_of_lt HG.out) (.int .i64 a))
       have HX4 := hid (HX3.out.below ((Below.refl gp W3).setCell (p := ⟨gp,1,none⟩) (Nat.le_refl _) (.int .i64 a)) HG.out)
       clear y0 y1 y2 y3 y4 y5 y6 y7 y8 p1 p2 p3 p4 r2 f1
       generalize (W3.setCell ⟨gp,1,none⟩ (.int .i64 a)) = W4 at *
       have y1 := HX4.out.at (k := 1) (v := .int .i64 a) rfl
       have y2 := HX4.out.at (k := 2) (v := .int .i64 b) rfl
       have y3 := HX4.out.at (k := 3) (v := .int .u64 (n : Nat)) rfl
       have y4 := HX4.out.at (k := 4) (v := .int .u64 (h : Nat)) rfl
       have p1 := HP4.out.at (k := 1) (v := .int .i64 a) rfl
       have p2 := HP4.out.at (k := 2) (v := .int .i64 0) rfl
       have p3 := HP4.out.at (k := 3) (v := .int .u64 0) rfl
       have p4 := HP4.out.at (k := 4) (v := .int .u64 0) rfl
       go_wp2
       go_ret
       exact ⟨by simp,HB4.out⟩
end Go.Proofs.YtjgeedgphcjhoaaGreat
