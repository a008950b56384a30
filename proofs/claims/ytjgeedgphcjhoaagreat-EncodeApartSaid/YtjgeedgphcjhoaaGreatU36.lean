/-
  SRef, SSame: merged, what the law does not reach left out (each text says what it holds where it lies in wip). No condition.
-/
import Derived.Test.YtjgeedgphcjhoaaGreatU35
import Derived.Test.YtjgeedgphcjhoaaGreatU18
import Derived.Test.YtjgeedgphcjhoaaGreatU03
import Derived.Test.YtjgeedgphcjhoaaGreatU33
import Derived.Test.YtjgeedgphcjhoaaGreatU01
set_option linter.unusedSimpArgs false
set_option linter.unusedVariables false
set_option maxRecDepth 100000
namespace Go.Proofs.YtjgeedgphcjhoaaGreat
open Go.RowKit
set_option maxHeartbeats 4000000 in
theorem refInts_says (l1 l2 : List Int) (v1 v2 : Value) (B : Nat) (w : World) (h1 : LI B w v1 l1) (h2 : LI B w v2 l2) (hB : B ≤ w.heap.size) : Calls Tryz.prog 92 #[v1,v2] w fun e w' => e = .returned (.bool (l1 == l2)) ∧ Below w.heap.size w w' := by
 obtain ⟨p1,c1,rfl,hq1,hc1⟩ := h1
 obtain ⟨p2,c2,rfl,hq2,hc2⟩ := h2
 have HB := hid hB
 by_cases hl : l1.length = l2.length
 ·obtain ⟨n,hn⟩ : ∃ n,n = l1.length := ⟨_,rfl⟩
  have hn2 : l2.length = n := by omega
  rw [← hn] at hq1 ⊢
  rw [hn2]
  have HC1 := hid hc1
  have HC2 := hid hc2
  have HN1 := hid hn.symm
  have HN2 := hid hn2
  have hd : ((n : Int) != (n : Int)) = false := by simp
  have hn' : (n : Int) < 9223372036854775807 := by omega
  obtain ⟨r,hr⟩ : ∃ r,r = (l1 == l2) := ⟨_,rfl⟩
  rw [← hr]
  have HR := hid hr
  clear hc1 hc2 hq1 hq2 hl hn hn2 hr hB
  go_enter Tryz.func92,Tryz.ntmps92
  go_wp2
  go_loopw [5] (fun vi wr => ∃ i : Nat,i ≤ n ∧ vi = .int .i64 i ∧ Hid (l1.take i = l2.take i) ∧ Hid (Below w.heap.size w wr)) (fun vi _ => n - (intOf vi).toNat)
  case atStart => exact ⟨0,Nat.zero_le _,rfl,rfl,Below.refl _ _⟩
  obtain ⟨i,hi,rfl,HI,HW⟩ := hrel
  by_cases hlt : i < n
  ·have hi1 : i < l1.length := by rw [HN1.out]; exact hlt
   have hi2 : i < l2.length := by rw [HN2.out]; exact hlt
   obtain ⟨g1,o1,rfl,hg1,hx1⟩ := HC1.out (fun e => by rw [e] at hi1; simp at hi1)
   obtain ⟨g2,o2,rfl,hg2,hx2⟩ := HC2.out (fun e => by rw [e] at hi2; simp at hi2)
   obtain ⟨x,hx⟩ : ∃ x,l1[i]? = some x := ⟨_,List.getElem?_eq_getElem hi1⟩
   obtain ⟨y,hy⟩ : ∃ y,l2[i]? = some y := ⟨_,List.getElem?_eq_getElem hi2⟩
   have a1 := (HW.out.cell (p := ⟨g1,o1 + i,none⟩) (Nat.lt_of_lt_of_le hg1 HB.out)).trans (hx1 i x hx)
   have a2 := (HW.out.cell (p := ⟨g2,o2 + i,none⟩) (Nat.lt_of_lt_of_le hg2 HB.out)).trans (hx2 i y hy)
   have HX := hid hx
   have HY := hid hy
   clear hx1 hx2 hx hy hg1 hg2 hi1 hi2
   by_cases hxy : x = y
   ·have hd2 : (x != y) = false := by simp [hxy]
    have HXY := hid hxy
    clear hxy
    go_wp2_with fail
    go_region
    go_wp2
    go_roundw
    case rel => exact ⟨i + 1,hlt,by go_num,by (show l1.take (i + 1) = l2.take (i + 1)); rw [List.take_add_one,List.take_add_one,HI.out,HX.out,HY.out,HXY.out],HW.out.drew⟩
    case measure => simp [intOf]; omega
   have hd2 : (x != y) = true := by simp [hxy]
   have HE : Hid (r = false) := by
    rw [HR.out]
    refine beq_eq_false_iff_ne.2 fun e => hxy ?_
    have := HX.out
    rw [e,HY.out] at this
    simpa using this.symm
   clear hxy
   go_wp2_with fail
   go_region
   go_wp2
   go_ret
   exact ⟨by rw [HE.out]; rfl,HW.out.drew⟩
  obtain rfl : i = n := by omega
  have HE : Hid (r = true) := by
   rw [HR.out]
   have h := HI.out
   have e1 := HN1.out
   have e2 := HN2.out
   rw [← e1,List.take_length,e1,← e2,List.take_length] at h
   rw [h]
   exact beq_self_eq_true _
  go_wp2
  go_ret
  exact ⟨by rw [HE.out]; rfl,HW.out⟩
 have hne : (l1 == l2) = false := beq_eq_false_iff_ne.2 (fun e => hl (by rw [e]))
 rw [hne]
 have hd : ((l1.length : Int) != (l2.length : Int)) = true := by simp; omega
 generalize l1.length = n1 at *
 generalize l2.length = n2 at *
 clear hc1 hc2 hne hl hB HB
 go_enter Tryz.func92,Tryz.ntmps92
 go_wp2
 go_ret
 exact ⟨rfl,Below.refl _ _⟩
theorem bne_not {α : Type} [BEq α] (a b : α) : (a == b) = !(a != b) := by simp [bne]
theorem beq_cons2 (op a b : Int) (n h : Nat) (l : List Int) (ot : Bool) (body els rest : Fo) (op2 a2 b2 : Int) (n2 h2 : Nat) (l2 : List Int) (ot2 : Bool) (body2 els2 rest2 : Fo) :
  (Fo.cons op a b n h l ot body els rest).beq (.cons op2 a2 b2 n2 h2 l2 ot2 body2 els2 rest2) = (((!(op != op2)) && ((!(a != a2)) && ((!(b != b2)) && ((!((n : Int) != (n2 : Int))) && ((!((h : Int) != (h2 : Int))) && ((!(ot != ot2)) && ((body.beq body2) && ((els.beq els2) && (l == l2))))))))) && rest.beq rest2) := by
 simp only [Fo.beq,← bne_not,natb]
 rw [Bool.eq_iff_iff]
 simp only [Bool.and_eq_true]
 grind
set_option maxHeartbeats 16000000 in
theorem refCode_says (B : Nat) : ∀ (N : Nat) (f g : Fo),f.cnt < N → Lens f → f.len < 9223372036854775807 → Lens g → g.len < 9223372036854775807 → ∀ (v1 v2 : Value) (w : World),B ≤ w.heap.size → SA B w v1 f → SA B w v2 g →
  Calls Tryz.prog 93 #[v1,v2] w fun e w' => e = .returned (.bool (f.beq g)) ∧ Below w.heap.size w w' := by
 intro N
 induction N with
 | zero => intro f g h; omega
 | succ N ih =>
  intro f g hf hLf hlf hLg hlg v1 v2 w hB hs1 hs2
  obtain ⟨p1,c1,ga,oa,rfl,hp1,hfa1⟩ := hs1
  obtain ⟨p2,c2,gb,ob,rfl,hp2,hfa2⟩ := hs2
  obtain ⟨R,hR⟩ : ∃ R,R = f.beq g := ⟨_,rfl⟩
  rw [← hR]
  obtain ⟨m,hm⟩ : ∃ m,m = f.len := ⟨_,rfl⟩
  obtain ⟨m2,hm2⟩ : ∃ m,m = g.len := ⟨_,rfl⟩
  rw [← hm] at hp1 hlf ⊢
  rw [← hm2] at hp2 hlg ⊢
  by_cases hl : m = m2
  ·subst hl
   have hd : ((m : Int) != (m : Int)) = false := by simp
   have hn1 : (m : Int) < 9223372036854775807 := by omega
   have HIH := hid ih
   have HP1 := hid hp1
   have HP2 := hid hp2
   have HBW := hid hB
   have HS : Hid (0 + f.len = m ∧ 0 + g.len = m ∧ f.cnt < N + 1 ∧ FA B w f ga (oa + 0 * 9) ∧ FA B w g gb (ob + 0 * 9) ∧ R = f.beq g ∧ Lens f ∧ Lens g) := ⟨by omega,by omega,hf,by simpa using hfa1,by simpa using hfa2,hR,hLf,hLg⟩
   clear ih hp1 hp2 hR hm hm2 hfa1 hfa2 hf hLf hLg hlf hlg hB
   go_enter Tryz.func93,Tryz.ntmps93
   go_wp2
   go_loopw [5] (fun vi wr => ∃ (i : Nat) (fi gi : Fo),i ≤ m ∧ vi = .int .i64 i ∧ Hid (i + fi.len = m ∧ i + gi.len = m ∧ fi.cnt < N + 1 ∧ FA B wr fi ga (oa + i * 9) ∧ FA B wr gi gb (ob + i * 9) ∧ R = fi.beq gi ∧ Lens fi ∧ Lens gi) ∧ Hid (Below w.heap.size w wr)) (fun vi _ => m - (intOf vi).toNat)
   case atStart => exact ⟨0,f,g,Nat.zero_le _,rfl,HS,Below.refl _ _⟩
   obtain ⟨i,fi,gi,him,rfl,HI,HB⟩ := hrel
   cases fi with
   | nil =>
    have hi : i = m := HI.out.1
    subst hi
    have HE : Hid (R = true) := by
     have h1 := HI.out.2.1
     have h2 := HI.out.2.2.2.2.2.1
     cases gi with
     | nil => exact h2
     | cons _ _ _ _ _ _ _ _ _ _ => simp only [Fo.len] at h1; omega
    go_wp2
    go_ret
    exact ⟨by rw [HE.out]; rfl,HB.out⟩
   | cons op a b n h l ot body els rest =>
    cases gi with
    | nil => exact absurd (show False by have h1 := HI.out.1; have h2 := HI.out.2.1; simp only [Fo.len] at h1 h2; omega) id
    | cons op2 a2 b2 n2 h2 l2 ot2 body2 els2 rest2 =>
     obtain ⟨hga,⟨vl,vb,ve,x0,x1,x2,x3,x4,x5,x6,x7,x8,hl,hbo,hel⟩,hrest⟩ := HI.out.2.2.2.1
     obtain ⟨hgb,⟨ul,ub,ue,y0,y1,y2,y3,y4,y5,y6,y7,y8,kl,kbo,kel⟩,krest⟩ := HI.out.2.2.2.2.1
     have hlt : i < m := by have := HI.out.1; simp only [Fo.len] at this; omega
     obtain rfl := HP1.out (by omega)
     obtain rfl := HP2.out (by omega)
     obtain ⟨q1,q2,q3,q4,q5⟩ := HI.out.2.2.2.2.2.2.1
     obtain ⟨t1,t2,t3,t4,t5⟩ := HI.out.2.2.2.2.2.2.2
     have hcn := HI.out.2.2.1
     simp only [Fo.cnt] at hcn
     have hev := HI.out.2.2.2.2.2.1
     rw [beq_cons2] at hev
     have hbo : SA B wr vb body := hbo
     have hel : SA B wr ve els := hel
     have kbo : SA B wr ub body2 := kbo
     have kel : SA B wr ue els2 := kel
     have hBr := Nat.le_trans HBW.out HB.out.size
     have KL := fun W (hW : Below wr.heap.size wr W) => refInts_says l l2 vl ul B W (hl.below (hW.mono hBr)) (kl.below (hW.mono hBr)) (Nat.le_trans hBr hW.size)
     have KB := fun W (hW : Below wr.heap.size wr W) => (HIH.out body body2 (by omega) q3 q1 t3 t1 vb ub W (Nat.le_trans hBr hW.size) (hbo.below (hW.mono hBr)) (kbo.below (hW.mono hBr)))
     have KE := fun W (hW : Below wr.heap.size wr W) => (HIH.out els els2 (by omega) q4 q2 t4 t2 ve ue W (Nat.le_trans hBr hW.size) (hel.below (hW.mono hBr)) (kel.below (hW.mono hBr)))
     obtain ⟨pl,cl,rfl,_⟩ := id hl
     obtain ⟨pk,ck,rfl,_⟩ := id kl
     obtain ⟨pb,cb,_,_,rfl,_⟩ := id hbo
     obtain ⟨pc,cc,_,_,rfl,_⟩ := id kbo
     obtain ⟨pe,ce,_,_,rfl,_⟩ := id hel
     obtain ⟨pf,cf,_,_,rfl,_⟩ := id kel
     have hA1 := (Below.refl wr.heap.size wr).alloc (Nat.le_refl _) (.cells #[.int .i64 op,.int .i64 a,.int .i64 b,.int .u64 n,.int .u64 h,.slice pl l.length cl,.slice pb body.len cb,.slice pe els.len ce,.bool ot] 39)
     have hA2 := hA1.alloc (by rw [size_al]; omega) (.cells #[.int .i64 op2,.int .i64 a2,.int .i64 b2,.int .u64 (n2 : Nat),.int .u64 (h2 : Nat),.slice pk l2.length ck,.slice pc body2.len cc,.slice pf els2.len cf,.bool ot2] 39)
     have HLE := hid (show i + 1 + rest.len = m ∧ i + 1 + rest2.len = m ∧ rest.cnt < N + 1 by have h1 := HI.out.1; have h2 := HI.out.2.1; simp only [Fo.len] at h1 h2; omega)
     have HRS := hid (show FA B wr rest ga (oa + (i + 1) * 9) ∧ FA B wr rest2 gb (ob + (i + 1) * 9) by (have h9 : oa + (i + 1) * 9 = oa + i * 9 + 9 := by omega); (have h8 : ob + (i + 1) * 9 = ob + i * 9 + 9 := by omega); rw [h9,h8]; exact ⟨hrest,krest⟩)
     have HLR := hid (And.intro q5 t5)
     have hgb2 := Nat.lt_of_lt_of_le hgb hBr
     have hga2 := Nat.lt_of_lt_of_le hga hBr
     have hq1 : wr.heap.size ≠ ga := by omega
     have hq2 : wr.heap.size ≠ gb := by omega
     have HGG := hid (And.intro hga hgb)
     have HBR := hid hBr
     have HA2 := hid hA2
     have KKL := fun W h => hid (KL W h)
     have KKB := fun W h => hid (KB W h)
     have KKE := fun W h => hid (KE W h)
     obtain ⟨e0,d0⟩ : ∃ e,(op != op2) = e := ⟨_,rfl⟩
     obtain ⟨e1,d1⟩ : ∃ e,(a != a2) = e := ⟨_,rfl⟩
     obtain ⟨e2,d2⟩ : ∃ e,(b != b2) = e := ⟨_,rfl⟩
     obtain ⟨e3,d3⟩ : ∃ e,((n : Int) != (n2 : Int)) = e := ⟨_,rfl⟩
     obtain ⟨e4,d4⟩ : ∃ e,((h : Int) != (h2 : Int)) = e := ⟨_,rfl⟩
     obtain ⟨e5,d5⟩ : ∃ e,(ot != ot2) = e := ⟨_,rfl⟩
     rw [d0,d1,d2,d3,d4,d5] at hev
     have H5 := hid d5
     clear d5
     obtain ⟨e6,h6⟩ : ∃ e,e = body.beq body2 := ⟨_,rfl⟩
     obtain ⟨e7,h7⟩ : ∃ e,e = els.beq els2 := ⟨_,rfl⟩
     obtain ⟨e8,h8⟩ : ∃ e,e = (l == l2) := ⟨_,rfl⟩
     rw [← h6,← h7,← h8] at hev
     rw [← h6] at KKB
     rw [← h7] at KKE
     rw [← h8] at KKL
     clear h6 h7 h8
     have HEV := hid hev
     have u0 := (hA1.cell (p := ⟨gb,ob + i * 9,none⟩) hgb2).trans y0
     have u1 := (hA1.cell (p := ⟨gb,ob + i * 9 + 1,none⟩) hgb2).trans y1
     have u2 := (hA1.cell (p := ⟨gb,ob + i * 9 + 2,none⟩) hgb2).trans y2
     have u3 := (hA1.cell (p := ⟨gb,ob + i * 9 + 3,none⟩) hgb2).trans y3
     have u4 := (hA1.cell (p := ⟨gb,ob + i * 9 + 4,none⟩) hgb2).trans y4
     have u5 := (hA1.cell (p := ⟨gb,ob + i * 9 + 5,none⟩) hgb2).trans y5
     have u6 := (hA1.cell (p := ⟨gb,ob + i * 9 + 6,none⟩) hgb2).trans y6
     have u7 := (hA1.cell (p := ⟨gb,ob + i * 9 + 7,none⟩) hgb2).trans y7
     have u8 := (hA1.cell (p := ⟨gb,ob + i * 9 + 8,none⟩) hgb2).trans y8
     clear hl hbo hel hrest kl kbo kel krest HI hga hgb hcn hev q1 q2 q3 q4 q5 t1 t2 t3 t4 t5 KL KB KE hBr hA1 hA2 hga2 hgb2 y0 y1 y2 y3 y4 y5 y6 y7 y8
     generalize l.length = ll at *
     generalize l2.length = ll2 at *
     generalize body.len = lb at *
     generalize body2.len = lb2 at *
     generalize els.len = le at *
     generalize els2.len = le2 at *
     have HX := hid (CA.alloc (CA.new wr #[.int .i64 op,.int .i64 a,.int .i64 b,.int .u64 n,.int .u64 h,.slice pl ll cl,.slice pb lb cb,.slice pe le ce,.bool ot] 39) (.cells #[.int .i64 op2,.int .i64 a2,.int .i64 b2,.int .u64 (n2 : Nat),.int .u64 (h2 : Nat),.slice pk ll2 ck,.slice pc lb2 cc,.slice pf le2 cf,.bool ot2] 39))
     have HY := hid (CA.new (wr.alloc (.cells #[.int .i64 op,.int .i64 a,.int .i64 b,.int .u64 n,.int .u64 h,.slice pl ll cl,.slice pb lb cb,.slice pe le ce,.bool ot] 39)) #[.int .i64 op2,.int .i64 a2,.int .i64 b2,.int .u64 (n2 : Nat),.int .u64 (h2 : Nat),.slice pk ll2 ck,.slice pc lb2 cc,.slice pf le2 cf,.bool ot2] 39)
     rw [size_al] at HY
     cases e0 with
     | true =>
      go_wp2_with (first
       | (go_at_call 93; (with_reducible refine (KKB _ HA2.out).out.mono ?_); rintro e w1 ⟨rfl,hb⟩; have HW0 := hid (HA2.out.trans (hb.mono HA2.out.size)); have HX0 := hid (HX.out.below hb HX.out.lt); have HY0 := hid (HY.out.below hb HY.out.lt); have X0_5 := HX0.out.at (k := 5) (v := .slice pl ll cl) rfl; have Y0_5 := HY0.out.at (k := 5) (v := .slice pk ll2 ck) rfl; have X0_7 := HX0.out.at (k := 7) (v := .slice pe le ce) rfl; have Y0_7 := HY0.out.at (k := 7) (v := .slice pf le2 cf) rfl; clear hb)
       | (go_at_call 93; (with_reducible refine (KKE _ HW0.out).out.mono ?_); rintro e w2 ⟨rfl,hb⟩; have HW1 := hid (HW0.out.trans (hb.mono HW0.out.size)); have HX1 := hid (HX0.out.below hb HX0.out.lt); have HY1 := hid (HY0.out.below hb HY0.out.lt); have X1_5 := HX1.out.at (k := 5) (v := .slice pl ll cl) rfl; have Y1_5 := HY1.out.at (k := 5) (v := .slice pk ll2 ck) rfl; clear hb)
       | (go_at_call 92; (with_reducible refine (KKL _ HW1.out).out.mono ?_); rintro e w3 ⟨rfl,hb⟩; have HW2 := hid (HW1.out.trans (hb.mono HW1.out.size)); have HX2 := hid (HX1.out.below hb HX1.out.lt); have HY2 := hid (HY1.out.below hb HY1.out.lt); have X2_0 := HX2.out.at (k := 0) (v := .int .i64 op) rfl; have Y2_0 := HY2.out.at (k := 0) (v := .int .i64 op2) rfl; have X2_1 := HX2.out.at (k := 1) (v := .int .i64 a) rfl; have Y2_1 := HY2.out.at (k := 1) (v := .int .i64 a2) rfl; have X2_2 := HX2.out.at (k := 2) (v := .int .i64 b) rfl; have Y2_2 := HY2.out.at (k := 2) (v := .int .i64 b2) rfl; have X2_3 := HX2.out.at (k := 3) (v := .int .u64 n) rfl; have Y2_3 := HY2.out.at (k := 3) (v := .int .u64 (n2 : Nat)) rfl; have X2_4 := HX2.out.at (k := 4) (v := .int .u64 h) rfl; have Y2_4 := HY2.out.at (k := 4) (v := .int .u64 (h2 : Nat)) rfl; have X2_8 := HX2.out.at (k := 8) (v := .bool ot) rfl; have Y2_8 := HY2.out.at (k := 8) (v := .bool ot2) rfl; clear hb))
      go_ret
      exact ⟨by rw [HEV.out]; rfl,HB.out.trans (HW2.out.mono HB.out.size)⟩
     | false =>
      cases e1 with
      | true =>
       go_wp2_with (first
        | (go_at_call 93; (with_reducible refine (KKB _ HA2.out).out.mono ?_); rintro e w1 ⟨rfl,hb⟩; have HW0 := hid (HA2.out.trans (hb.mono HA2.out.size)); have HX0 := hid (HX.out.below hb HX.out.lt); have HY0 := hid (HY.out.below hb HY.out.lt); have X0_5 := HX0.out.at (k := 5) (v := .slice pl ll cl) rfl; have Y0_5 := HY0.out.at (k := 5) (v := .slice pk ll2 ck) rfl; have X0_7 := HX0.out.at (k := 7) (v := .slice pe le ce) rfl; have Y0_7 := HY0.out.at (k := 7) (v := .slice pf le2 cf) rfl; clear hb)
        | (go_at_call 93; (with_reducible refine (KKE _ HW0.out).out.mono ?_); rintro e w2 ⟨rfl,hb⟩; have HW1 := hid (HW0.out.trans (hb.mono HW0.out.size)); have HX1 := hid (HX0.out.below hb HX0.out.lt); have HY1 := hid (HY0.out.below hb HY0.out.lt); have X1_5 := HX1.out.at (k := 5) (v := .slice pl ll cl) rfl; have Y1_5 := HY1.out.at (k := 5) (v := .slice pk ll2 ck) rfl; clear hb)
        | (go_at_call 92; (with_reducible refine (KKL _ HW1.out).out.mono ?_); rintro e w3 ⟨rfl,hb⟩; have HW2 := hid (HW1.out.trans (hb.mono HW1.out.size)); have HX2 := hid (HX1.out.below hb HX1.out.lt); have HY2 := hid (HY1.out.below hb HY1.out.lt); have X2_0 := HX2.out.at (k := 0) (v := .int .i64 op) rfl; have Y2_0 := HY2.out.at (k := 0) (v := .int .i64 op2) rfl; have X2_1 := HX2.out.at (k := 1) (v := .int .i64 a) rfl; have Y2_1 := HY2.out.at (k := 1) (v := .int .i64 a2) rfl; have X2_2 := HX2.out.at (k := 2) (v := .int .i64 b) rfl; have Y2_2 := HY2.out.at (k := 2) (v := .int .i64 b2) rfl; have X2_3 := HX2.out.at (k := 3) (v := .int .u64 n) rfl; have Y2_3 := HY2.out.at (k := 3) (v := .int .u64 (n2 : Nat)) rfl; have X2_4 := HX2.out.at (k := 4) (v := .int .u64 h) rfl; have Y2_4 := HY2.out.at (k := 4) (v := .int .u64 (h2 : Nat)) rfl; have X2_8 := HX2.out.at (k := 8) (v := .bool ot) rfl; have Y2_8 := HY2.out.at (k := 8) (v := .bool ot2) rfl; clear hb))
       go_ret
       exact ⟨by rw [HEV.out]; rfl,HB.out.trans (HW2.out.mono HB.out.size)⟩
      | false =>
       cases e2 with
       | true =>
        go_wp2_with (first
         | (go_at_call 93; (with_reducible refine (KKB _ HA2.out).out.mono ?_); rintro e w1 ⟨rfl,hb⟩; have HW0 := hid (HA2.out.trans (hb.mono HA2.out.size)); have HX0 := hid (HX.out.below hb HX.out.lt); have HY0 := hid (HY.out.below hb HY.out.lt); have X0_5 := HX0.out.at (k := 5) (v := .slice pl ll cl) rfl; have Y0_5 := HY0.out.at (k := 5) (v := .slice pk ll2 ck) rfl; have X0_7 := HX0.out.at (k := 7) (v := .slice pe le ce) rfl; have Y0_7 := HY0.out.at (k := 7) (v := .slice pf le2 cf) rfl; clear hb)
         | (go_at_call 93; (with_reducible refine (KKE _ HW0.out).out.mono ?_); rintro e w2 ⟨rfl,hb⟩; have HW1 := hid (HW0.out.trans (hb.mono HW0.out.size)); have HX1 := hid (HX0.out.below hb HX0.out.lt); have HY1 := hid (HY0.out.below hb HY0.out.lt); have X1_5 := HX1.out.at (k := 5) (v := .slice pl ll cl) rfl; have Y1_5 := HY1.out.at (k := 5) (v := .slice pk ll2 ck) rfl; clear hb)
         | (go_at_call 92; (with_reducible refine (KKL _ HW1.out).out.mono ?_); rintro e w3 ⟨rfl,hb⟩; have HW2 := hid (HW1.out.trans (hb.mono HW1.out.size)); have HX2 := hid (HX1.out.below hb HX1.out.lt); have HY2 := hid (HY1.out.below hb HY1.out.lt); have X2_0 := HX2.out.at (k := 0) (v := .int .i64 op) rfl; have Y2_0 := HY2.out.at (k := 0) (v := .int .i64 op2) rfl; have X2_1 := HX2.out.at (k := 1) (v := .int .i64 a) rfl; have Y2_1 := HY2.out.at (k := 1) (v := .int .i64 a2) rfl; have X2_2 := HX2.out.at (k := 2) (v := .int .i64 b) rfl; have Y2_2 := HY2.out.at (k := 2) (v := .int .i64 b2) rfl; have X2_3 := HX2.out.at (k := 3) (v := .int .u64 n) rfl; have Y2_3 := HY2.out.at (k := 3) (v := .int .u64 (n2 : Nat)) rfl; have X2_4 := HX2.out.at (k := 4) (v := .int .u64 h) rfl; have Y2_4 := HY2.out.at (k := 4) (v := .int .u64 (h2 : Nat)) rfl; have X2_8 := HX2.out.at (k := 8) (v := .bool ot) rfl; have Y2_8 := HY2.out.at (k := 8) (v := .bool ot2) rfl; clear hb))
        go_ret
        exact ⟨by rw [HEV.out]; rfl,HB.out.trans (HW2.out.mono HB.out.size)⟩
       | false =>
        cases e3 with
        | true =>
         go_wp2_with (first
          | (go_at_call 93; (with_reducible refine (KKB _ HA2.out).out.mono ?_); rintro e w1 ⟨rfl,hb⟩; have HW0 := hid (HA2.out.trans (hb.mono HA2.out.size)); have HX0 := hid (HX.out.below hb HX.out.lt); have HY0 := hid (HY.out.below hb HY.out.lt); have X0_5 := HX0.out.at (k := 5) (v := .slice pl ll cl) rfl; have Y0_5 := HY0.out.at (k := 5) (v := .slice pk ll2 ck) rfl; have X0_7 := HX0.out.at (k := 7) (v := .slice pe le ce) rfl; have Y0_7 := HY0.out.at (k := 7) (v := .slice pf le2 cf) rfl; clear hb)
          | (go_at_call 93; (with_reducible refine (KKE _ HW0.out).out.mono ?_); rintro e w2 ⟨rfl,hb⟩; have HW1 := hid (HW0.out.trans (hb.mono HW0.out.size)); have HX1 := hid (HX0.out.below hb HX0.out.lt); have HY1 := hid (HY0.out.below hb HY0.out.lt); have X1_5 := HX1.out.at (k := 5) (v := .slice pl ll cl) rfl; have Y1_5 := HY1.out.at (k := 5) (v := .slice pk ll2 ck) rfl; clear hb)
          | (go_at_call 92; (with_reducible refine (KKL _ HW1.out).out.mono ?_); rintro e w3 ⟨rfl,hb⟩; have HW2 := hid (HW1.out.trans (hb.mono HW1.out.size)); have HX2 := hid (HX1.out.below hb HX1.out.lt); have HY2 := hid (HY1.out.below hb HY1.out.lt); have X2_0 := HX2.out.at (k := 0) (v := .int .i64 op) rfl; have Y2_0 := HY2.out.at (k := 0) (v := .int .i64 op2) rfl; have X2_1 := HX2.out.at (k := 1) (v := .int .i64 a) rfl; have Y2_1 := HY2.out.at (k := 1) (v := .int .i64 a2) rfl; have X2_2 := HX2.out.at (k := 2) (v := .int .i64 b) rfl; have Y2_2 := HY2.out.at (k := 2) (v := .int .i64 b2) rfl; have X2_3 := HX2.out.at (k := 3) (v := .int .u64 n) rfl; have Y2_3 := HY2.out.at (k := 3) (v := .int .u64 (n2 : Nat)) rfl; have X2_4 := HX2.out.at (k := 4) (v := .int .u64 h) rfl; have Y2_4 := HY2.out.at (k := 4) (v := .int .u64 (h2 : Nat)) rfl; have X2_8 := HX2.out.at (k := 8) (v := .bool ot) rfl; have Y2_8 := HY2.out.at (k := 8) (v := .bool ot2) rfl; clear hb))
         go_ret
         exact ⟨by rw [HEV.out]; rfl,HB.out.trans (HW2.out.mono HB.out.size)⟩
        | false =>
         cases e4 with
         | true =>
          go_wp2_with (first
           | (go_at_call 93; (with_reducible refine (KKB _ HA2.out).out.mono ?_); rintro e w1 ⟨rfl,hb⟩; have HW0 := hid (HA2.out.trans (hb.mono HA2.out.size)); have HX0 := hid (HX.out.below hb HX.out.lt); have HY0 := hid (HY.out.below hb HY.out.lt); have X0_5 := HX0.out.at (k := 5) (v := .slice pl ll cl) rfl; have Y0_5 := HY0.out.at (k := 5) (v := .slice pk ll2 ck) rfl; have X0_7 := HX0.out.at (k := 7) (v := .slice pe le ce) rfl; have Y0_7 := HY0.out.at (k := 7) (v := .slice pf le2 cf) rfl; clear hb)
           | (go_at_call 93; (with_reducible refine (KKE _ HW0.out).out.mono ?_); rintro e w2 ⟨rfl,hb⟩; have HW1 := hid (HW0.out.trans (hb.mono HW0.out.size)); have HX1 := hid (HX0.out.below hb HX0.out.lt); have HY1 := hid (HY0.out.below hb HY0.out.lt); have X1_5 := HX1.out.at (k := 5) (v := .slice pl ll cl) rfl; have Y1_5 := HY1.out.at (k := 5) (v := .slice pk ll2 ck) rfl; clear hb)
           | (go_at_call 92; (with_reducible refine (KKL _ HW1.out).out.mono ?_); rintro e w3 ⟨rfl,hb⟩; have HW2 := hid (HW1.out.trans (hb.mono HW1.out.size)); have HX2 := hid (HX1.out.below hb HX1.out.lt); have HY2 := hid (HY1.out.below hb HY1.out.lt); have X2_0 := HX2.out.at (k := 0) (v := .int .i64 op) rfl; have Y2_0 := HY2.out.at (k := 0) (v := .int .i64 op2) rfl; have X2_1 := HX2.out.at (k := 1) (v := .int .i64 a) rfl; have Y2_1 := HY2.out.at (k := 1) (v := .int .i64 a2) rfl; have X2_2 := HX2.out.at (k := 2) (v := .int .i64 b) rfl; have Y2_2 := HY2.out.at (k := 2) (v := .int .i64 b2) rfl; have X2_3 := HX2.out.at (k := 3) (v := .int .u64 n) rfl; have Y2_3 := HY2.out.at (k := 3) (v := .int .u64 (n2 : Nat)) rfl; have X2_4 := HX2.out.at (k := 4) (v := .int .u64 h) rfl; have Y2_4 := HY2.out.at (k := 4) (v := .int .u64 (h2 : Nat)) rfl; have X2_8 := HX2.out.at (k := 8) (v := .bool ot) rfl; have Y2_8 := HY2.out.at (k := 8) (v := .bool ot2) rfl; clear hb))
          go_ret
          exact ⟨by rw [HEV.out]; rfl,HB.out.trans (HW2.out.mono HB.out.size)⟩
         | false =>
          by_cases hot : ot = ot2
          ·subst hot
           obtain rfl : e5 = false := by rw [← H5.out]; simp
           clear H5
           cases e6 with
           | false =>
            go_wp2_with (first
             | (go_at_call 93; (with_reducible refine (KKB _ HA2.out).out.mono ?_); rintro e w1 ⟨rfl,hb⟩; have HW0 := hid (HA2.out.trans (hb.mono HA2.out.size)); have HX0 := hid (HX.out.below hb HX.out.lt); have HY0 := hid (HY.out.below hb HY.out.lt); have X0_5 := HX0.out.at (k := 5) (v := .slice pl ll cl) rfl; have Y0_5 := HY0.out.at (k := 5) (v := .slice pk ll2 ck) rfl; have X0_7 := HX0.out.at (k := 7) (v := .slice pe le ce) rfl; have Y0_7 := HY0.out.at (k := 7) (v := .slice pf le2 cf) rfl; clear hb)
             | (go_at_call 93; (with_reducible refine (KKE _ HW0.out).out.mono ?_); rintro e w2 ⟨rfl,hb⟩; have HW1 := hid (HW0.out.trans (hb.mono HW0.out.size)); have HX1 := hid (HX0.out.below hb HX0.out.lt); have HY1 := hid (HY0.out.below hb HY0.out.lt); have X1_5 := HX1.out.at (k := 5) (v := .slice pl ll cl) rfl; have Y1_5 := HY1.out.at (k := 5) (v := .slice pk ll2 ck) rfl; clear hb)
             | (go_at_call 92; (with_reducible refine (KKL _ HW1.out).out.mono ?_); rintro e w3 ⟨rfl,hb⟩; have HW2 := hid (HW1.out.trans (hb.mono HW1.out.size)); have HX2 := hid (HX1.out.below hb HX1.out.lt); have HY2 := hid (HY1.out.below hb HY1.out.lt); have X2_0 := HX2.out.at (k := 0) (v := .int .i64 op) rfl; have Y2_0 := HY2.out.at (k := 0) (v := .int .i64 op2) rfl; have X2_1 := HX2.out.at (k := 1) (v := .int .i64 a) rfl; have Y2_1 := HY2.out.at (k := 1) (v := .int .i64 a2) rfl; have X2_2 := HX2.out.at (k := 2) (v := .int .i64 b) rfl; have Y2_2 := HY2.out.at (k := 2) (v := .int .i64 b2) rfl; have X2_3 := HX2.out.at (k := 3) (v := .int .u64 n) rfl; have Y2_3 := HY2.out.at (k := 3) (v := .int .u64 (n2 : Nat)) rfl; have X2_4 := HX2.out.at (k := 4) (v := .int .u64 h) rfl; have Y2_4 := HY2.out.at (k := 4) (v := .int .u64 (h2 : Nat)) rfl; have X2_8 := HX2.out.at (k := 8) (v := .bool ot) rfl; have Y2_8 := HY2.out.at (k := 8) (v := .bool ot) rfl; clear hb))
            go_ret
            exact ⟨by rw [HEV.out]; rfl,HB.out.trans (HW2.out.mono HB.out.size)⟩
           | true =>
            cases e7 with
            | false =>
             go_wp2_with (first
              | (go_at_call 93; (with_reducible refine (KKB _ HA2.out).out.mono ?_); rintro e w1 ⟨rfl,hb⟩; have HW0 := hid (HA2.out.trans (hb.mono HA2.out.size)); have HX0 := hid (HX.out.below hb HX.out.lt); have HY0 := hid (HY.out.below hb HY.out.lt); have X0_5 := HX0.out.at (k := 5) (v := .slice pl ll cl) rfl; have Y0_5 := HY0.out.at (k := 5) (v := .slice pk ll2 ck) rfl; have X0_7 := HX0.out.at (k := 7) (v := .slice pe le ce) rfl; have Y0_7 := HY0.out.at (k := 7) (v := .slice pf le2 cf) rfl; clear hb)
              | (go_at_call 93; (with_reducible refine (KKE _ HW0.out).out.mono ?_); rintro e w2 ⟨rfl,hb⟩; have HW1 := hid (HW0.out.trans (hb.mono HW0.out.size)); have HX1 := hid (HX0.out.below hb HX0.out.lt); have HY1 := hid (HY0.out.below hb HY0.out.lt); have X1_5 := HX1.out.at (k := 5) (v := .slice pl ll cl) rfl; have Y1_5 := HY1.out.at (k := 5) (v := .slice pk ll2 ck) rfl; clear hb)
              | (go_at_call 92; (with_reducible refine (KKL _ HW1.out).out.mono ?_); rintro e w3 ⟨rfl,hb⟩; have HW2 := hid (HW1.out.trans (hb.mono HW1.out.size)); have HX2 := hid (HX1.out.below hb HX1.out.lt); have HY2 := hid (HY1.out.below hb HY1.out.lt); have X2_0 := HX2.out.at (k := 0) (v := .int .i64 op) rfl; have Y2_0 := HY2.out.at (k := 0) (v := .int .i64 op2) rfl; have X2_1 := HX2.out.at (k := 1) (v := .int .i64 a) rfl; have Y2_1 := HY2.out.at (k := 1) (v := .int .i64 a2) rfl; have X2_2 := HX2.out.at (k := 2) (v := .int .i64 b) rfl; have Y2_2 := HY2.out.at (k := 2) (v := .int .i64 b2) rfl; have X2_3 := HX2.out.at (k := 3) (v := .int .u64 n) rfl; have Y2_3 := HY2.out.at (k := 3) (v := .int .u64 (n2 : Nat)) rfl; have X2_4 := HX2.out.at (k := 4) (v := .int .u64 h) rfl; have Y2_4 := HY2.out.at (k := 4) (v := .int .u64 (h2 : Nat)) rfl; have X2_8 := HX2.out.at (k := 8) (v := .bool ot) rfl; have Y2_8 := HY2.out.at (k := 8) (v := .bool ot) rfl; clear hb))
             go_ret
             exact ⟨by rw [HEV.out]; rfl,HB.out.trans (HW2.out.mono HB.out.size)⟩
            | true =>
             cases e8 with
             | false =>
              go_wp2_with (first
               | (go_at_call 93; (with_reducible refine (KKB _ HA2.out).out.mono ?_); rintro e w1 ⟨rfl,hb⟩; have HW0 := hid (HA2.out.trans (hb.mono HA2.out.size)); have HX0 := hid (HX.out.below hb HX.out.lt); have HY0 := hid (HY.out.below hb HY.out.lt); have X0_5 := HX0.out.at (k := 5) (v := .slice pl ll cl) rfl; have Y0_5 := HY0.out.at (k := 5) (v := .slice pk ll2 ck) rfl; have X0_7 := HX0.out.at (k := 7) (v := .slice pe le ce) rfl; have Y0_7 := HY0.out.at (k := 7) (v := .slice pf le2 cf) rfl; clear hb)
               | (go_at_call 93; (with_reducible refine (KKE _ HW0.out).out.mono ?_); rintro e w2 ⟨rfl,hb⟩; have HW1 := hid (HW0.out.trans (hb.mono HW0.out.size)); have HX1 := hid (HX0.out.below hb HX0.out.lt); have HY1 := hid (HY0.out.below hb HY0.out.lt); have X1_5 := HX1.out.at (k := 5) (v := .slice pl ll cl) rfl; have Y1_5 := HY1.out.at (k := 5) (v := .slice pk ll2 ck) rfl; clear hb)
               | (go_at_call 92; (with_reducible refine (KKL _ HW1.out).out.mono ?_); rintro e w3 ⟨rfl,hb⟩; have HW2 := hid (HW1.out.trans (hb.mono HW1.out.size)); have HX2 := hid (HX1.out.below hb HX1.out.lt); have HY2 := hid (HY1.out.below hb HY1.out.lt); have X2_0 := HX2.out.at (k := 0) (v := .int .i64 op) rfl; have Y2_0 := HY2.out.at (k := 0) (v := .int .i64 op2) rfl; have X2_1 := HX2.out.at (k := 1) (v := .int .i64 a) rfl; have Y2_1 := HY2.out.at (k := 1) (v := .int .i64 a2) rfl; have X2_2 := HX2.out.at (k := 2) (v := .int .i64 b) rfl; have Y2_2 := HY2.out.at (k := 2) (v := .int .i64 b2) rfl; have X2_3 := HX2.out.at (k := 3) (v := .int .u64 n) rfl; have Y2_3 := HY2.out.at (k := 3) (v := .int .u64 (n2 : Nat)) rfl; have X2_4 := HX2.out.at (k := 4) (v := .int .u64 h) rfl; have Y2_4 := HY2.out.at (k := 4) (v := .int .u64 (h2 : Nat)) rfl; have X2_8 := HX2.out.at (k := 8) (v := .bool ot) rfl; have Y2_8 := HY2.out.at (k := 8) (v := .bool ot) rfl; clear hb))
              go_ret
              exact ⟨by rw [HEV.out]; rfl,HB.out.trans (HW2.out.mono HB.out.size)⟩
             | true =>
              go_wp2_with (first
               | (go_at_call 93; (with_reducible refine (KKB _ HA2.out).out.mono ?_); rintro e w1 ⟨rfl,hb⟩; have HW0 := hid (HA2.out.trans (hb.mono HA2.out.size)); have HX0 := hid (HX.out.below hb HX.out.lt); have HY0 := hid (HY.out.below hb HY.out.lt); have X0_5 := HX0.out.at (k := 5) (v := .slice pl ll cl) rfl; have Y0_5 := HY0.out.at (k := 5) (v := .slice pk ll2 ck) rfl; have X0_7 := HX0.out.at (k := 7) (v := .slice pe le ce) rfl; have Y0_7 := HY0.out.at (k := 7) (v := .slice pf le2 cf) rfl; clear hb)
               | (go_at_call 93; (with_reducible refine (KKE _ HW0.out).out.mono ?_); rintro e w2 ⟨rfl,hb⟩; have HW1 := hid (HW0.out.trans (hb.mono HW0.out.size)); have HX1 := hid (HX0.out.below hb HX0.out.lt); have HY1 := hid (HY0.out.below hb HY0.out.lt); have X1_5 := HX1.out.at (k := 5) (v := .slice pl ll cl) rfl; have Y1_5 := HY1.out.at (k := 5) (v := .slice pk ll2 ck) rfl; clear hb)
               | (go_at_call 92; (with_reducible refine (KKL _ HW1.out).out.mono ?_); rintro e w3 ⟨rfl,hb⟩; have HW2 := hid (HW1.out.trans (hb.mono HW1.out.size)); have HX2 := hid (HX1.out.below hb HX1.out.lt); have HY2 := hid (HY1.out.below hb HY1.out.lt); have X2_0 := HX2.out.at (k := 0) (v := .int .i64 op) rfl; have Y2_0 := HY2.out.at (k := 0) (v := .int .i64 op2) rfl; have X2_1 := HX2.out.at (k := 1) (v := .int .i64 a) rfl; have Y2_1 := HY2.out.at (k := 1) (v := .int .i64 a2) rfl; have X2_2 := HX2.out.at (k := 2) (v := .int .i64 b) rfl; have Y2_2 := HY2.out.at (k := 2) (v := .int .i64 b2) rfl; have X2_3 := HX2.out.at (k := 3) (v := .int .u64 n) rfl; have Y2_3 := HY2.out.at (k := 3) (v := .int .u64 (n2 : Nat)) rfl; have X2_4 := HX2.out.at (k := 4) (v := .int .u64 h) rfl; have Y2_4 := HY2.out.at (k := 4) (v := .int .u64 (h2 : Nat)) rfl; have X2_8 := HX2.out.at (k := 8) (v := .bool ot) rfl; have Y2_8 := HY2.out.at (k := 8) (v := .bool ot) rfl; clear hb))
              go_roundw
              case rel => exact ⟨i + 1,rest,rest2,hlt,by go_num,⟨HLE.out.1,HLE.out.2.1,HLE.out.2.2,FA.below (HW2.out.mono HBR.out) _ _ _ HRS.out.1,FA.below (HW2.out.mono HBR.out) _ _ _ HRS.out.2,by rw [HEV.out]; rfl,HLR.out.1,HLR.out.2⟩,HB.out.trans (HW2.out.mono HB.out.size)⟩
              case measure => simp [intOf]; omega
          obtain rfl : e5 = true := by rw [← H5.out]; simpa using hot
          clear H5
          cases ot <;> cases ot2 <;> first | exact absurd rfl hot | skip
          all_goals
           clear hot
           go_wp2_with (first
            | (go_at_call 93; (with_reducible refine (KKB _ HA2.out).out.mono ?_); rintro e w1 ⟨rfl,hb⟩; have HW0 := hid (HA2.out.trans (hb.mono HA2.out.size)); have HX0 := hid (HX.out.below hb HX.out.lt); have HY0 := hid (HY.out.below hb HY.out.lt); have X0_5 := HX0.out.at (k := 5) (v := .slice pl ll cl) rfl; have Y0_5 := HY0.out.at (k := 5) (v := .slice pk ll2 ck) rfl; have X0_7 := HX0.out.at (k := 7) (v := .slice pe le ce) rfl; have Y0_7 := HY0.out.at (k := 7) (v := .slice pf le2 cf) rfl; clear hb)
            | (go_at_call 93; (with_reducible refine (KKE _ HW0.out).out.mono ?_); rintro e w2 ⟨rfl,hb⟩; have HW1 := hid (HW0.out.trans (hb.mono HW0.out.size)); have HX1 := hid (HX0.out.below hb HX0.out.lt); have HY1 := hid (HY0.out.below hb HY0.out.lt); have X1_5 := HX1.out.at (k := 5) (v := .slice pl ll cl) rfl; have Y1_5 := HY1.out.at (k := 5) (v := .slice pk ll2 ck) rfl; clear hb)
            | (go_at_call 92; (with_reducible refine (KKL _ HW1.out).out.mono ?_); rintro e w3 ⟨rfl,hb⟩; have HW2 := hid (HW1.out.trans (hb.mono HW1.out.size)); have HX2 := hid (HX1.out.below hb HX1.out.lt); have HY2 := hid (HY1.out.below hb HY1.out.lt); have X2_0 := HX2.out.at (k := 0) (v := .int .i64 op) rfl; have Y2_0 := HY2.out.at (k := 0) (v := .int .i64 op2) rfl; have X2_1 := HX2.out.at (k := 1) (v := .int .i64 a) rfl; have Y2_1 := HY2.out.at (k := 1) (v := .int .i64 a2) rfl; have X2_2 := HX2.out.at (k := 2) (v := .int .i64 b) rfl; have Y2_2 := HY2.out.at (k := 2) (v := .int .i64 b2) rfl; have X2_3 := HX2.out.at (k := 3) (v := .int .u64 n) rfl; have Y2_3 := HY2.out.at (k := 3) (v := .int .u64 (n2 : Nat)) rfl; have X2_4 := HX2.out.at (k := 4) (v := .int .u64 h) rfl; have Y2_4 := HY2.out.at (k := 4) (v := .int .u64 (h2 : Nat)) rfl; have X2_8 := HX2.out.at (k := 8) (v := .bool _) rfl; have Y2_8 := HY2.out.at (k := 8) (v := .bool _) rfl; clear hb))
           go_ret
           exact ⟨by rw [HEV.out]; rfl,HB.out.trans (HW2.out.mono HB.out.size)⟩
  have hd : ((m : Int) != (m2 : Int)) = true := by simp; omega
  have HE : Hid (R = false) := by
   rw [hR]
   refine Bool.eq_false_iff.2 fun h => hl ?_
   rw [hm,hm2]
   exact Fo.beq_len h
  clear hl hR ih hm hm2 hfa1 hfa2 hf hLf hLg hp1 hp2 hB
  go_enter Tryz.func93,Tryz.ntmps93
  go_wp2
  go_ret
  exact ⟨by rw [HE.out]; rfl,Below.refl _ _⟩
theorem refCode_at (f g : Fo) (v1 v2 : Value) (B : Nat) (w : World) (hLf : Lens f) (hlf : f.len < 9223372036854775807) (hLg : Lens g) (hlg : g.len < 9223372036854775807) (hB : B ≤ w.heap.size) (h1 : SA B w v1 f) (h2 : SA B w v2 g) :
  Calls Tryz.prog 93 #[v1,v2] w fun e w' => e = .returned (.bool (f.beq g)) ∧ Below w.heap.size w w' :=
 refCode_says B (f.cnt + 1) f g (Nat.lt_succ_self _) hLf hlf hLg hlg v1 v2 w hB h1 h2
end Go.Proofs.YtjgeedgphcjhoaaGreat
namespace Go.Proofs.YtjgeedgphcjhoaaGreat
open Go.RowKit
theorem LO.li {B : Nat} {w : World} {p : Option Addr} {c : Nat} {l : List Int} (h : LO B w p c l) : LI B w (.slice p l.length c) l := h.1
theorem RowM.get {B : Nat} {w : World} {p : Option Addr} {n b o N : Nat} {cs : Nat → List Value} (h : RowM B w p n b o N cs) {i : Nat} (hi : i < n) (k : Nat) {v : Value} (hk : (cs i)[k]? = some v) : w.cell? ⟨b,o + i * N + k,none⟩ = some v := h.2.2 i hi k v hk
section
variable {B : Nat} {w : World}
end
end Go.Proofs.YtjgeedgphcjhoaaGreat
