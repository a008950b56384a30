/-
  ROf: merged, what the law does not reach left out (each text says what it holds where it lies in wip). No condition.
-/
import Derived.Test.YtjgeedgphcjhoaaGreatP03
import Derived.Deep.RegionHeld3
import Derived.Deep.DeepCutAuto
set_option linter.unusedSimpArgs false
set_option linter.unusedVariables false
set_option maxRecDepth 100000
namespace Go.Proofs.YtjgeedgphcjhoaaGreat
open Go.RowKit
def rwz : Rw := (0,[],0,[],[],false)
def rwCells (r : Rw) : Array Value := #[.int .i64 r.1,.string (str r.2.1),.int .i64 r.2.2.1,.string (str r.2.2.2.1),.string (str r.2.2.2.2.1),.bool r.2.2.2.2.2]
/-- A row in a block of its own. -/
def RB (g : Nat) (r : Rw) (W : World) : Prop := W.heap[g]? = some (.cells (rwCells r) 172 (0,0))
theorem RB.lt {g : Nat} {r : Rw} {W : World} (h : RB g r W) : g < W.heap.size := (Array.getElem?_eq_some_iff.1 h).1
theorem RB.new (w : World) : RB w.heap.size rwz (w.alloc (.cells (rwCells rwz) 172)) := by
 show (w.heap.push _)[w.heap.size]? = _
 simp
theorem RB.call {g : Nat} {r : Rw} {W W' : World} (h : RB g r W) (hb : Below W.heap.size W W') : RB g r W' := by
 unfold RB at h ⊢
 rw [hb.block g (RB.lt h),h]
theorem RB.alloc {g : Nat} {r : Rw} {W : World} (h : RB g r W) (o : Obj) : RB g r (W.alloc o) := h.call ((Below.refl _ _).alloc (Nat.le_refl _) o)
theorem RB.drew {g : Nat} {r : Rw} {W : World} (h : RB g r W) : RB g r W.drew := h
theorem RB.cells {g : Nat} {r : Rw} {W : World} (h : RB g r W) : W.cell? ⟨g,0,none⟩ = some (.int .i64 r.1) ∧ W.cell? ⟨g,1,none⟩ = some (.string (str r.2.1)) ∧ W.cell? ⟨g,2,none⟩ = some (.int .i64 r.2.2.1) ∧ W.cell? ⟨g,3,none⟩ = some (.string (str r.2.2.2.1)) ∧ W.cell? ⟨g,4,none⟩ = some (.string (str r.2.2.2.2.1)) ∧ W.cell? ⟨g,5,none⟩ = some (.bool r.2.2.2.2.2) := by
 unfold RB at h
 refine ⟨?_,?_,?_,?_,?_,?_⟩ <;> (rw [World.cell?,h]; rfl)
theorem RB.free {g : Nat} {r : Rw} {W : World} (h : RB g r W) (k : Nat) : W.frozen? ⟨g,k,none⟩ = false := by
 unfold RB at h
 rw [World.frozen?,h]
 simp
theorem RB.set {g k : Nat} {r r' : Rw} {W : World} {v : Value} (h : RB g r W) (he : (rwCells r).setIfInBounds k v = rwCells r') : RB g r' (W.setCell ⟨g,k,none⟩ v) := by
 unfold RB at h ⊢
 rw [World.setCell,Array.getElem?_modify,if_pos rfl,h]
 simp only [Option.map_some]
 rw [← he]
 rfl
theorem RB.store {g : Nat} {r : Rw} {W : World} (h : RB g r W) (a : Int) (b : List UInt8) (c : Int) (d e : List UInt8) (f : Bool) :
  RB g (a,b,c,d,e,f) ((((((W.setCell ⟨g,0,none⟩ (.int .i64 a)).setCell ⟨g,1,none⟩ (.string (str b))).setCell ⟨g,2,none⟩ (.int .i64 c)).setCell ⟨g,3,none⟩ (.string (str d))).setCell ⟨g,4,none⟩ (.string (str e))).setCell ⟨g,5,none⟩ (.bool f)) := by
 obtain ⟨a0,b0,c0,d0,e0,f0⟩ := r
 exact (((((h.set (r' := (a,b0,c0,d0,e0,f0)) rfl).set (r' := (a,b,c0,d0,e0,f0)) rfl).set (r' := (a,b,c,d0,e0,f0)) rfl).set (r' := (a,b,c,d,e0,f0)) rfl).set (r' := (a,b,c,d,e,f0)) rfl).set (r' := (a,b,c,d,e,f)) rfl
theorem below_six {B g : Nat} {w W : World} (h : Below B w W) (hg : B ≤ g) (v0 v1 v2 v3 v4 v5 : Value) :
  Below B w ((((((W.setCell ⟨g,0,none⟩ v0).setCell ⟨g,1,none⟩ v1).setCell ⟨g,2,none⟩ v2).setCell ⟨g,3,none⟩ v3).setCell ⟨g,4,none⟩ v4).setCell ⟨g,5,none⟩ v5) :=
 (((((h.setCell (p := ⟨g,0,none⟩) hg _).setCell (p := ⟨g,1,none⟩) hg _).setCell (p := ⟨g,2,none⟩) hg _).setCell (p := ⟨g,3,none⟩) hg _).setCell (p := ⟨g,4,none⟩) hg _).setCell (p := ⟨g,5,none⟩) hg _
theorem size24 : (Tryz.prog.info? 172).map (·.size) = some 6 := by kernel_rfl
theorem res9 (tmps : Array Value) (W : World) (g : Nat) (r : Rw) (h : RB g r W) (hp : tmps.getD 2 undef = .pointer (some ⟨g,0,none⟩)) : (results Tryz.f153 tmps).run Tryz.prog W = .ok (rwV r) W := by
 have hl := run_loadVar_row (P := Tryz.prog) W g 172 172 (rwCells r) (0,0) _ h Tryz.underlying172 rfl size24
 unfold results
 rw [show Tryz.f153.results = #[.cell 2 172] by kernel_rfl]
 rw [Array.getD_eq_getD_getElem?] at hp
 simp [hp,asAddr,hl]
 rfl
theorem sst_succ (l : List UInt8) (n : Nat) (h : n < l.length) : sst l (n + 1) = stepS (sst l n) l[n] := by
 unfold sst
 rw [List.take_add_one,List.getElem?_eq_getElem h,List.foldl_append]
 rfl
theorem sst_len (l : List UInt8) : ∀ n,(sst l n).2.1.length ≤ n ∧ (sst l n).2.2.length ≤ n
 | 0 => by simp [sst]
 | n + 1 => by
  have ih := sst_len l n
  by_cases h : n < l.length
  ·rw [sst_succ l n h]
   generalize sst l n = p at ih
   obtain ⟨b,t,v⟩ := p
   simp only [stepS] at ih ⊢
   split
   ·simp at ih ⊢; omega
   ·split <;> (simp at ih ⊢; omega)
  ·have e : sst l (n + 1) = sst l n := by unfold sst; rw [List.take_of_length_le (by omega),List.take_of_length_le (by omega)]
   rw [e]; omega
set_option maxHeartbeats 4000000 in
theorem Of_says (op : Int) (w : World) : Calls Tryz.prog 153 #[.int .i64 op] w fun e w' => e = .returned (rwV (ofL op)) ∧ Below w.heap.size w w' := by
 have hok := text_ok op
 obtain ⟨t,ht⟩ : ∃ t,t = textOf op := ⟨_,rfl⟩
 have HOF := hid (show ofL op = ofText op t by rw [ht]; rfl)
 rw [← ht] at hok
 have HOK := hid hok
 have HT := hid ht
 clear hok ht
 go_enter Tryz.func153,Tryz.ntmps153
 go_upto_region 2 with fail
 obtain ⟨b,hb⟩ : ∃ b,b = decide (0 ≤ op ∧ op < 211) := ⟨_,rfl⟩
 go_cut [13] (fun s wx => s = .bool b ∧ wx = w.alloc (.cells (rwCells rwz) 172))
 case first =>
  by_cases d0 : 0 ≤ op
  ·by_cases d1 : op < 211
   ·rw [decide_eq_true ⟨d0,d1⟩] at hb
    subst hb
    go_wp2
    go_meet
    exact ⟨rfl,rfl⟩
   ·rw [decide_eq_false (fun h => d1 h.2)] at hb
    subst hb
    go_wp2
    go_meet
    exact ⟨rfl,rfl⟩
  ·rw [decide_eq_false (fun h => d0 h.1)] at hb
   subst hb
   go_wp2
   go_meet
   exact ⟨rfl,rfl⟩
 case rest =>
  obtain ⟨rfl,rfl⟩ := hcut
  go_upto_if 13 with fail
  go_cut [3] (fun s3 wx => s3 = .string (str t) ∧ Hid (Below (w.alloc (.cells (rwCells rwz) 172)).heap.size (w.alloc (.cells (rwCells rwz) 172)) wx))
  case first =>
   have hr0 : 0 ≤ op ∧ op < 211 ∨ 64512 ≤ op ∧ op < 64530 ∨ 64768 ≤ op ∧ op < 65024 ∨ op < 0 ∨ (211 ≤ op ∧ op < 64512) ∨ (64530 ≤ op ∧ op < 64768) ∨ 65024 ≤ op := by omega
   rcases hr0 with c1 | c1 | c1 | c1
   ·rw [decide_eq_true c1] at hb
    subst hb
    obtain ⟨k,rfl⟩ : ∃ k : Nat,op = k := ⟨op.toNat,by omega⟩
    have H := fun W => hid (one_says k (by omega) W)
    have e : t = tabOne.getD k [] := by rw [HT.out]; unfold textOf; rw [if_pos c1]; rfl
    rw [← e] at H
    obtain ⟨s,hs⟩ : ∃ s,s = str t := ⟨_,rfl⟩
    rw [← hs] at H
    have HSS := hid hs
    clear e hs
    go_wp2_with (go_at_call 216; refine (H _).out.mono ?_; rintro e w1 ⟨rfl,hb⟩)
    go_meet
    exact ⟨by rw [← HSS.out],by assumption⟩
   ·rw [decide_eq_false (by omega)] at hb
    subst hb
    obtain ⟨k,rfl⟩ : ∃ k : Nat,op = 64512 + k := ⟨(op - 64512).toNat,by omega⟩
    have e2 : 64512 + (k : Int) - 64512 = (k : Int) := by omega
    have H := fun W => hid (two_says k (by omega) W)
    rw [← e2] at H
    have e : t = tabTwo.getD k [] := by rw [HT.out]; unfold textOf; rw [if_neg (by omega),if_pos c1,show (64512 + (k : Int) - 64512).toNat = k by omega]
    rw [← e] at H
    obtain ⟨s,hs⟩ : ∃ s,s = str t := ⟨_,rfl⟩
    rw [← hs] at H
    have HSS := hid hs
    have hw : wrap64 (64512 + (k : Int) - 64512) = 64512 + (k : Int) - 64512 := by unfold wrap64; omega
    obtain ⟨d0,d1⟩ := c1
    clear e2
    clear e hs
    go_wp2_with (go_at_call 217; refine (H _).out.mono ?_; rintro e w1 ⟨rfl,hb⟩)
    go_meet
    exact ⟨by rw [← HSS.out],by assumption⟩
   ·rw [decide_eq_false (by omega)] at hb
    subst hb
    obtain ⟨k,rfl⟩ : ∃ k : Nat,op = 64768 + k := ⟨(op - 64768).toNat,by omega⟩
    have e2 : 64768 + (k : Int) - 64768 = (k : Int) := by omega
    have H := fun W => hid (three_says k (by omega) W)
    rw [← e2] at H
    have e : t = tabThree.getD k [] := by rw [HT.out]; unfold textOf; rw [if_neg (by omega),if_neg (by omega),if_pos c1,show (64768 + (k : Int) - 64768).toNat = k by omega]
    rw [← e] at H
    obtain ⟨s,hs⟩ : ∃ s,s = str t := ⟨_,rfl⟩
    rw [← hs] at H
    have HSS := hid hs
    have hw : wrap64 (64768 + (k : Int) - 64768) = 64768 + (k : Int) - 64768 := by unfold wrap64; omega
    obtain ⟨d0,d1⟩ := c1
    clear e2
    have d2 : ¬ 64768 + (k : Int) < 64530 := by omega
    have d3 : (64512 : Int) ≤ 64768 + (k : Int) := by omega
    clear e hs
    go_wp2_with (go_at_call 218; refine (H _).out.mono ?_; rintro e w1 ⟨rfl,hb⟩)
    go_meet
    exact ⟨by rw [← HSS.out],by assumption⟩
   ·rw [decide_eq_false (by omega)] at hb
    subst hb
    have e : str t = ⟨#[]⟩ := by rw [HT.out,text_out op (by rw [mem_rangeOps]; omega)]; rfl
    have HSS := hid e
    rcases c1 with c1 | c1 | c1 | c1
    ·have d1 : ¬ (64512 : Int) ≤ op := by omega
     have d2 : ¬ (64768 : Int) ≤ op := by omega
     clear c1 e
     go_wp2
     go_meet
     exact ⟨by rw [HSS.out],Below.refl _ _⟩
    ·have d1 : ¬ (64512 : Int) ≤ op := by omega
     have d2 : ¬ (64768 : Int) ≤ op := by omega
     clear c1 e
     go_wp2
     go_meet
     exact ⟨by rw [HSS.out],Below.refl _ _⟩
    ·have d1 : (64512 : Int) ≤ op := by omega
     have d2 : ¬ (64768 : Int) ≤ op := by omega
     have d3 : ¬ op < 64530 := by omega
     clear c1 e
     go_wp2
     go_meet
     exact ⟨by rw [HSS.out],Below.refl _ _⟩
    ·have d1 : (64512 : Int) ≤ op := by omega
     have d2 : (64768 : Int) ≤ op := by omega
     have d3 : ¬ op < 64530 := by omega
     have d4 : ¬ op < 65024 := by omega
     clear c1 e
     go_wp2
     go_meet
     exact ⟨by rw [HSS.out],Below.refl _ _⟩
  case rest =>
   obtain ⟨rfl,HW0⟩ := hcut
   have HB0 := hid (((Below.refl w.heap.size w).alloc (Nat.le_refl _) (.cells (rwCells rwz) 172)).trans (HW0.out.mono (by simp)))
   have HR0 := hid ((RB.new w).call HW0.out)
   have hlen : t.length ≤ 100 := by
    have := HOK.out
    unfold okText at this
    simp only [Bool.and_eq_true,decide_eq_true_eq] at this
    exact this.1
   have H26 := fun W => hid (words_says t hlen W)
   have HN : ∀ W,Hid (Calls Tryz.prog 220 #[] W fun e w' => e = .returned (.agg #[.int .i64 (-1),.string ⟨#[]⟩,.int .i64 0,.string ⟨#[]⟩,.string ⟨#[]⟩,.bool false]) ∧ Below W.heap.size W w') := fun W => none_says W
   clear hlen HT
   go_upto_region 9 with (go_at_call 219; refine (H26 _).out.mono ?_; rintro e w2 ⟨v,rfl,hown,hb⟩)
   have HB2 := hid (HB0.out.trans (hb.mono HB0.out.size))
   have HR2 := hid (HR0.out.call hb)
   clear hb HR0 HB0 HW0 H26
   by_cases h3 : (wordsL t).length = 3
   ·obtain ⟨a,b,c,hab⟩ : ∃ a b c,wordsL t = [a,b,c] := by
     match hm : wordsL t,h3 with
     | [a,b,c],_ => exact ⟨a,b,c,rfl⟩
    rw [hab] at hown
    rcases hown.2 with ⟨_,h⟩ | ⟨g,cap,cur,rfl,hbg,_,_,_,_,_⟩
    ·simp at h
    have hown' : w2.ownsRow wc.heap.size 9 1 (.slice (some ⟨g,0,none⟩) 3 cap) 3 (sc [a,b,c]) := hown
    have hlt := (hown'.lt g rfl).2
    have HCG : Hid (∀ W,Below w2.heap.size w2 W → W.cell? ⟨g,0,none⟩ = some (.string (str a)) ∧ W.cell? ⟨g,1,none⟩ = some (.string (str b)) ∧ W.cell? ⟨g,2,none⟩ = some (.string (str c))) := fun W h =>
     ⟨by rw [h.cell (p := ⟨g,0,none⟩) hlt,hown'.cellAt 0 (by omega)]; rfl,by rw [h.cell (p := ⟨g,1,none⟩) hlt,hown'.cellAt 1 (by omega)]; rfl,by rw [h.cell (p := ⟨g,2,none⟩) hlt,hown'.cellAt 2 (by omega)]; rfl⟩
    have hok := HOK.out
    unfold okText at hok
    rw [hab] at hok
    simp only [Bool.and_eq_true,decide_eq_true_eq] at hok
    have H28 := fun W => hid (digits_says b hok.2.1 W)
    have hcl : c.length ≤ 100 := hok.2.2
    have HE := hid (show ofText op t = if c = [63] then (op,a,digL b,[],[],false) else (op,a,digL b,(sst c c.length).2.1,(sst c c.length).2.2,true) by unfold ofText; rw [hab])
    clear hown hown' hlt hbg hok h3 hab HN
    rename_i r1 r2 r3 r4 r5
    clear r1 r2 r3 r4 r5
    go_upto_region 11 with fail
    go_cut [5] (fun s5 wx => ∃ gr : Nat,s5 = .pointer (some ⟨gr,0,none⟩) ∧ Hid (w2.heap.size ≤ gr ∧ Below w2.heap.size w2 wx ∧ RB gr (op,a,digL b,[],[],false) wx))
    case first =>
     have hS := (Below.refl w2.heap.size w2).drew
     refine wp_region_held_drew (S := Below w2.heap.size w2) (by kernel_rfl) hS (fun _ => ?_)
     generalize w2.drew = W at *
     refine wpAnyH_take (oi := ⟨_,_,_,_,_,_⟩) (i := 0) (v := .int .i64 op) rfl (by kernel_rfl) (by kernel_rfl) (by kernel_rfl) (fun _ _ _ h => h) (Or.inl ⟨by rfl,?_⟩) (by assumption) ?_
     ·(intro W hSw; obtain ⟨y0,y1,y2⟩ := HCG.out W hSw; go_simp; try (with_reducible rfl))
     try simp only [Act.put,List.setIfInBounds_toArray,List.set_cons_zero,List.set_cons_succ]
     refine wpAnyH_take (oi := ⟨_,_,_,_,_,_⟩) (i := 1) (v := .slice (some ⟨g,0,none⟩) 3 cap) rfl (by kernel_rfl) (by kernel_rfl) (by kernel_rfl) (fun _ _ _ h => h) (Or.inl ⟨by rfl,?_⟩) (by assumption) ?_
     ·(intro W hSw; obtain ⟨y0,y1,y2⟩ := HCG.out W hSw; go_simp; try (with_reducible rfl))
     try simp only [Act.put,List.setIfInBounds_toArray,List.set_cons_zero,List.set_cons_succ]
     refine wpAnyH_take (oi := ⟨_,_,_,_,_,_⟩) (i := 2) (v := .pointer (some ⟨g,0,none⟩)) rfl (by kernel_rfl) (by kernel_rfl) (by kernel_rfl) (fun _ _ _ h => h) (Or.inl ⟨by rfl,?_⟩) (by assumption) ?_
     ·(intro W hSw; obtain ⟨y0,y1,y2⟩ := HCG.out W hSw; go_simp; try (with_reducible rfl))
     try simp only [Act.put,List.setIfInBounds_toArray,List.set_cons_zero,List.set_cons_succ]
     refine wpAnyH_take (oi := ⟨_,_,_,_,_,_⟩) (i := 3) (v := .string (str a)) rfl (by kernel_rfl) (by kernel_rfl) (by kernel_rfl) (fun _ _ _ h => h) (Or.inl ⟨by rfl,?_⟩) (by assumption) ?_
     ·(intro W hSw; obtain ⟨y0,y1,y2⟩ := HCG.out W hSw; go_simp; try (with_reducible rfl))
     try simp only [Act.put,List.setIfInBounds_toArray,List.set_cons_zero,List.set_cons_succ]
     refine wpAnyH_take (oi := ⟨_,_,_,_,_,_⟩) (i := 4) (v := .slice (some ⟨g,0,none⟩) 3 cap) rfl (by kernel_rfl) (by kernel_rfl) (by kernel_rfl) (fun _ _ _ h => h) (Or.inl ⟨by rfl,?_⟩) (by assumption) ?_
     ·(intro W hSw; obtain ⟨y0,y1,y2⟩ := HCG.out W hSw; go_simp; try (with_reducible rfl))
     try simp only [Act.put,List.setIfInBounds_toArray,List.set_cons_zero,List.set_cons_succ]
     refine wpAnyH_take (oi := ⟨_,_,_,_,_,_⟩) (i := 5) (v := .pointer (some ⟨g,1,none⟩)) rfl (by kernel_rfl) (by kernel_rfl) (by kernel_rfl) (fun _ _ _ h => h) (Or.inl ⟨by rfl,?_⟩) (by assumption) ?_
     ·(intro W hSw; obtain ⟨y0,y1,y2⟩ := HCG.out W hSw; go_simp; try (with_reducible rfl))
     try simp only [Act.put,List.setIfInBounds_toArray,List.set_cons_zero,List.set_cons_succ]
     refine wpAnyH_take (oi := ⟨_,_,_,_,_,_⟩) (i := 6) (v := .string (str b)) rfl (by kernel_rfl) (by kernel_rfl) (by kernel_rfl) (fun _ _ _ h => h) (Or.inl ⟨by rfl,?_⟩) (by assumption) ?_
     ·(intro W hSw; obtain ⟨y0,y1,y2⟩ := HCG.out W hSw; go_simp; try (with_reducible rfl))
     try simp only [Act.put,List.setIfInBounds_toArray,List.set_cons_zero,List.set_cons_succ]
     refine wpAnyH_ready (rs := [7,9]) (by kernel_rfl) (by simp) ?_
     refine AllReadyH.cons (o := ⟨_,_,_,_,_,_⟩) rfl (fun K hK => ?_) ?_
     ·go_simp
      go_at_call 221
      (with_reducible refine (H28 _).out.mono ?_)
      rintro e W1 ⟨rfl,hb⟩
      replace hS := hS.trans (hb.mono hS.size)
      try replace hR := hR.call hb
      clear hb
      refine hK.out _ _ hS (fun _ => ?_)
      clear hK K
      try simp only [Act.put,List.setIfInBounds_toArray,List.set_cons_zero,List.set_cons_succ]
      refine wpAnyH_take (oi := ⟨_,_,_,_,_,_⟩) (i := 8) (v := .agg #[.int .i64 op,.string (str a),.int .i64 (digL b),.string ⟨#[]⟩,.string ⟨#[]⟩,.bool false]) rfl (by kernel_rfl) (by kernel_rfl) (by kernel_rfl) (fun _ _ _ h => h) (Or.inl ⟨by rfl,?_⟩) (by assumption) ?_
      ·(intro W hSw; obtain ⟨y0,y1,y2⟩ := HCG.out W hSw; go_simp; try (with_reducible rfl))
      try simp only [Act.put,List.setIfInBounds_toArray,List.set_cons_zero,List.set_cons_succ]
      refine wpAnyH_ready (rs := [9]) (by kernel_rfl) (by simp) ?_
      refine AllReadyH.cons (o := ⟨_,_,_,_,_,_⟩) rfl (fun K hK => ?_) ?_
      ·go_simp
       have hR : RB (W1).heap.size rwz ((W1).alloc (.cells #[.int .i64 0,.string ⟨#[]⟩,.int .i64 0,.string ⟨#[]⟩,.string ⟨#[]⟩,.bool false] 172)) := RB.new W1
       have hge := hS.size
       replace hS := hS.alloc hge (.cells #[.int .i64 0,.string ⟨#[]⟩,.int .i64 0,.string ⟨#[]⟩,.string ⟨#[]⟩,.bool false] 172)
       generalize (W1).alloc (.cells #[.int .i64 0,.string ⟨#[]⟩,.int .i64 0,.string ⟨#[]⟩,.string ⟨#[]⟩,.bool false] 172) = W2 at *
       generalize (W1).heap.size = gr at *
       refine hK.out _ _ hS (fun _ => ?_)
       clear hK K
       try simp only [Act.put,List.setIfInBounds_toArray,List.set_cons_zero,List.set_cons_succ]
       refine wpAnyH_ready (rs := [10]) (by kernel_rfl) (by simp) ?_
       refine AllReadyH.cons (o := ⟨_,_,_,_,_,_⟩) rfl (fun K hK => ?_) ?_
       ·obtain ⟨x0,x1,x2,x3,x4,x5⟩ := hR.cells
        have xf := hR.free
        go_simp
        clear x0 x1 x2 x3 x4 x5 xf
        replace hS : Below w2.heap.size w2 ((((((((((((W2).setCell ⟨gr,0,none⟩ (.int .i64 op))).setCell ⟨gr,1,none⟩ (.string (str a)))).setCell ⟨gr,2,none⟩ (.int .i64 (digL b)))).setCell ⟨gr,3,none⟩ (.string ⟨#[]⟩))).setCell ⟨gr,4,none⟩ (.string ⟨#[]⟩))).setCell ⟨gr,5,none⟩ (.bool false)) := below_six hS hge _ _ _ _ _ _
        replace hR : RB gr (op,a,digL b,[],[],false) ((((((((((((W2).setCell ⟨gr,0,none⟩ (.int .i64 op))).setCell ⟨gr,1,none⟩ (.string (str a)))).setCell ⟨gr,2,none⟩ (.int .i64 (digL b)))).setCell ⟨gr,3,none⟩ (.string ⟨#[]⟩))).setCell ⟨gr,4,none⟩ (.string ⟨#[]⟩))).setCell ⟨gr,5,none⟩ (.bool false)) := hR.store op a (digL b) [] [] false
        generalize ((((((((((((W2).setCell ⟨gr,0,none⟩ (.int .i64 op))).setCell ⟨gr,1,none⟩ (.string (str a)))).setCell ⟨gr,2,none⟩ (.int .i64 (digL b)))).setCell ⟨gr,3,none⟩ (.string ⟨#[]⟩))).setCell ⟨gr,4,none⟩ (.string ⟨#[]⟩))).setCell ⟨gr,5,none⟩ (.bool false)) = W3 at *
        refine hK.out _ _ hS (fun _ => ?_)
        clear hK K
        try simp only [Act.put,List.setIfInBounds_toArray,List.set_cons_zero,List.set_cons_succ]
        refine wpAnyH_done (by kernel_rfl) ?_ _
        (go_wp2_with fail)
        go_meet
        exact ⟨gr,rfl,hge,hS,hR⟩
       exact AllReadyH.nil
      exact AllReadyH.nil
     refine AllReadyH.cons (o := ⟨_,_,_,_,_,_⟩) rfl (fun K hK => ?_) ?_
     ·go_simp
      have hR : RB (W).heap.size rwz ((W).alloc (.cells #[.int .i64 0,.string ⟨#[]⟩,.int .i64 0,.string ⟨#[]⟩,.string ⟨#[]⟩,.bool false] 172)) := RB.new W
      have hge := hS.size
      replace hS := hS.alloc hge (.cells #[.int .i64 0,.string ⟨#[]⟩,.int .i64 0,.string ⟨#[]⟩,.string ⟨#[]⟩,.bool false] 172)
      generalize (W).alloc (.cells #[.int .i64 0,.string ⟨#[]⟩,.int .i64 0,.string ⟨#[]⟩,.string ⟨#[]⟩,.bool false] 172) = W1 at *
      generalize (W).heap.size = gr at *
      refine hK.out _ _ hS (fun _ => ?_)
      clear hK K
      try simp only [Act.put,List.setIfInBounds_toArray,List.set_cons_zero,List.set_cons_succ]
      refine wpAnyH_ready (rs := [7]) (by kernel_rfl) (by simp) ?_
      refine AllReadyH.cons (o := ⟨_,_,_,_,_,_⟩) rfl (fun K hK => ?_) ?_
      ·go_simp
       go_at_call 221
       (with_reducible refine (H28 _).out.mono ?_)
       rintro e W2 ⟨rfl,hb⟩
       replace hS := hS.trans (hb.mono hS.size)
       try replace hR := hR.call hb
       clear hb
       refine hK.out _ _ hS (fun _ => ?_)
       clear hK K
       try simp only [Act.put,List.setIfInBounds_toArray,List.set_cons_zero,List.set_cons_succ]
       refine wpAnyH_take (oi := ⟨_,_,_,_,_,_⟩) (i := 8) (v := .agg #[.int .i64 op,.string (str a),.int .i64 (digL b),.string ⟨#[]⟩,.string ⟨#[]⟩,.bool false]) rfl (by kernel_rfl) (by kernel_rfl) (by kernel_rfl) (fun _ _ _ h => h) (Or.inl ⟨by rfl,?_⟩) (by assumption) ?_
       ·(intro W hSw; obtain ⟨y0,y1,y2⟩ := HCG.out W hSw; go_simp; try (with_reducible rfl))
       try simp only [Act.put,List.setIfInBounds_toArray,List.set_cons_zero,List.set_cons_succ]
       refine wpAnyH_ready (rs := [10]) (by kernel_rfl) (by simp) ?_
       refine AllReadyH.cons (o := ⟨_,_,_,_,_,_⟩) rfl (fun K hK => ?_) ?_
       ·obtain ⟨x0,x1,x2,x3,x4,x5⟩ := hR.cells
        have xf := hR.free
        go_simp
        clear x0 x1 x2 x3 x4 x5 xf
        replace hS : Below w2.heap.size w2 ((((((((((((W2).setCell ⟨gr,0,none⟩ (.int .i64 op))).setCell ⟨gr,1,none⟩ (.string (str a)))).setCell ⟨gr,2,none⟩ (.int .i64 (digL b)))).setCell ⟨gr,3,none⟩ (.string ⟨#[]⟩))).setCell ⟨gr,4,none⟩ (.string ⟨#[]⟩))).setCell ⟨gr,5,none⟩ (.bool false)) := below_six hS hge _ _ _ _ _ _
        replace hR : RB gr (op,a,digL b,[],[],false) ((((((((((((W2).setCell ⟨gr,0,none⟩ (.int .i64 op))).setCell ⟨gr,1,none⟩ (.string (str a)))).setCell ⟨gr,2,none⟩ (.int .i64 (digL b)))).setCell ⟨gr,3,none⟩ (.string ⟨#[]⟩))).setCell ⟨gr,4,none⟩ (.string ⟨#[]⟩))).setCell ⟨gr,5,none⟩ (.bool false)) := hR.store op a (digL b) [] [] false
        generalize ((((((((((((W2).setCell ⟨gr,0,none⟩ (.int .i64 op))).setCell ⟨gr,1,none⟩ (.string (str a)))).setCell ⟨gr,2,none⟩ (.int .i64 (digL b)))).setCell ⟨gr,3,none⟩ (.string ⟨#[]⟩))).setCell ⟨gr,4,none⟩ (.string ⟨#[]⟩))).setCell ⟨gr,5,none⟩ (.bool false)) = W3 at *
        refine hK.out _ _ hS (fun _ => ?_)
        clear hK K
        try simp only [Act.put,List.setIfInBounds_toArray,List.set_cons_zero,List.set_cons_succ]
        refine wpAnyH_done (by kernel_rfl) ?_ _
        (go_wp2_with fail)
        go_meet
        exact ⟨gr,rfl,hge,hS,hR⟩
       exact AllReadyH.nil
      exact AllReadyH.nil
     exact AllReadyH.nil
    case rest =>
     obtain ⟨gr,rfl,HG⟩ := hcut
     have HBw := hid (HB2.out.trans (HG.out.2.1.mono HB2.out.size))
     have HRr := hid (HR2.out.call HG.out.2.1)
     have hne := hid (show gr ≠ w.heap.size by have := HR2.out.lt; have := HG.out.1; omega)
     obtain ⟨y0,y1,y2⟩ := HCG.out _ HG.out.2.1
     clear H28
     obtain ⟨s,hs⟩ : ∃ s,s = str c := ⟨_,rfl⟩
     rw [← hs] at y2
     have HSC := hid hs
     have hssz : s.size = c.length := by rw [hs,str_size]
     clear hs
     by_cases hc : c = [63]
     ·have hq : (s.toList == [63]) = true := by rw [HSC.out,str_list,hc]; rfl
      have HE2 := hid (HE.out.trans (if_pos hc))
      obtain ⟨x0,x1,x2,x3,x4,x5⟩ := HG.out.2.2.cells
      obtain ⟨z0,z1,z2,z3,z4,z5⟩ := HRr.out.cells
      have xf := HG.out.2.2.free
      have zf := HRr.out.free
      clear hc hssz
      go_wp2
      clear x0 x1 x2 x3 x4 x5 xf z0 z1 z2 z3 z4 z5 zf y0 y1 y2
      have hR3 := HRr.out.store op a (digL b) [] [] false
      exact bodyPost_ret (v := rwV (op,a,digL b,[],[],false)) (res9 _ _ _ _ hR3 rfl) rfl ⟨by rw [HOF.out,HE2.out],below_six HBw.out (Nat.le_refl _) _ _ _ _ _ _⟩
     ·have hq : (s.toList == [63]) = false := by rw [HSC.out,str_list,beq_eq_false_iff_ne]; exact hc
      have HE2 := hid (HE.out.trans (if_neg hc))
      obtain ⟨x0,x1,x2,x3,x4,x5⟩ := HG.out.2.2.cells
      have xf := HG.out.2.2.free
      clear hc
      go_wp2
      clear x0 x1 x2 x3 x4 x5 xf y0 y1 y2 hq
      have HRN := hid (HG.out.2.2.set (k := 5) (r' := (op,a,digL b,[],[],true)) (v := .bool true) rfl)
      have HBN := hid (HG.out.2.1.setCell (p := ⟨gr,5,none⟩) HG.out.1 (.bool true))
      generalize wc.setCell ⟨gr,5,none⟩ (.bool true) = wd at *
      have HBwd := hid (HB2.out.trans (HBN.out.mono HB2.out.size))
      have HRrd := hid (HR2.out.call HBN.out)
      clear HBw HRr
      go_loopw [6,7] (fun vb vi wr => ∃ n : Nat,Hid (n ≤ c.length) ∧ vi = .int .i64 n ∧ vb = .bool (sst c n).1 ∧ Hid (Below w2.heap.size w2 wr ∧ RB gr (op,a,digL b,(sst c n).2.1,(sst c n).2.2,true) wr)) (fun _ vi _ => 101 - (intOf vi).toNat)
      case atStart => exact ⟨0,Nat.zero_le _,rfl,rfl,HBN.out,HRN.out⟩
      case round =>
       obtain ⟨n,hn,rfl,rfl,HRR⟩ := hrel
       obtain ⟨y0,y1,y2⟩ := HCG.out _ HRR.out.1
       rw [← HSC.out] at y2
       by_cases hnl : n < c.length
       ·have hn1 := hid (show n + 1 ≤ c.length from hnl)
        obtain ⟨ch,hch⟩ : ∃ ch,ch = c[n]'hnl := ⟨_,rfl⟩
        have hget : ∀ h : n < s.size,(s[n]'h) = ch := fun h => by
         have e := HSC.out
         subst e
         exact (str_get c n hnl _).trans hch.symm
        have HSU := hid (sst_succ c n hnl)
        rw [← hch] at HSU
        have hchH := hid hch
        have HLE := hid (sst_len c n)
        obtain ⟨bb,tk,lv,hpp⟩ : ∃ bb tk lv,sst c n = (bb,tk,lv) := ⟨_,_,_,rfl⟩
        rw [hpp] at HRR HLE ⊢
        have HPP := hid hpp
        dsimp only at HRR HLE ⊢
        clear hpp hch
        by_cases hc62 : ch = 62
        ·have hcn : (ch.toNat : Int) = 62 := by rw [hc62]; rfl
         have HST := hid (show sst c (n + 1) = (true,tk,lv) by rw [HSU.out,HPP.out,hc62]; rfl)
         clear hc62
         go_wp2
         go_roundw
         case rel => exact ⟨n + 1,hn1.out,by go_num,by rw [HST.out],HRR.out.1,by rw [HST.out]; exact HRR.out.2⟩
         case measure => (first | (simp [intOf]; done) | (simp [intOf]; omega))
        ·have hcn : ((ch.toNat : Int) == 62) = false := by
          rw [beq_eq_false_iff_ne]
          intro e
          exact hc62 (UInt8.toNat_inj.1 (by have : (62 : UInt8).toNat = 62 := rfl; omega))
         have hc62H := hid hc62
         clear hc62
         cases bb
         ·have HST := hid (show sst c (n + 1) = (false,tk ++ [ch],lv) by rw [HSU.out,HPP.out]; unfold stepS; simp [hc62H.out])
          have hadd := fun W => run_string_add_sum (P := Tryz.prog) W (str tk) (s.extract n (n + 1)) (by rw [str_size,ByteArray.size_extract]; have := HLE.out; omega)
          have hsn : str tk ++ s.extract n (n + 1) = str (tk ++ [ch]) := by rw [HSC.out,str_snoc tk c n hnl,hchH.out]
          rw [hsn] at hadd
          obtain ⟨ys,hys⟩ : ∃ ys,ys = str (tk ++ [ch]) := ⟨_,rfl⟩
          rw [← hys] at hadd
          have hysH := hid hys
          clear hsn hys
          go_wp2_with fail
          have hR := HRR.out.2.drew
          have hS := HRR.out.1.drew
          have hge := HG.out.1
          have hw1 : wrap64 ((n : Int) + 1) = (n : Int) + 1 := by unfold wrap64; omega
          have hb1 : (0 : Int) ≤ (n : Int) + 1 ∧ (n : Int) + 1 ≤ (c.length : Int) := by omega
          have hb2 : (n : Int) ≤ (n : Int) + 1 := by omega
          have hw2 : IntKind.i64.wrap ((n : Int) + 1) = (n : Int) + 1 := by rw [IntKind.wrap_i64]; unfold wrap64 at hw1; exact hw1
          refine wp_region_held_drew (S := Below w2.heap.size w2) (by kernel_rfl) hS (fun _ => ?_)
          clear y0 y1 y2
          generalize wr.drew = W at *
          refine wpAnyH_take (oi := ⟨_,_,_,_,_,_⟩) (i := 0) (v := .pointer (some ⟨gr,3,none⟩)) rfl (by kernel_rfl) (by kernel_rfl) (by kernel_rfl) (fun _ _ _ h => h) (Or.inl ⟨by rfl,?_⟩) (by assumption) ?_
          ·(intro W hSw; obtain ⟨y0,y1,y2⟩ := HCG.out W hSw; rw [← HSC.out] at y2; go_simp; try (with_reducible rfl))
          try simp only [Act.put,List.setIfInBounds_toArray,List.set_cons_zero,List.set_cons_succ]
          refine wpAnyH_take (oi := ⟨_,_,_,_,_,_⟩) (i := 2) (v := .slice (some ⟨g,0,none⟩) 3 cap) rfl (by kernel_rfl) (by kernel_rfl) (by kernel_rfl) (fun _ _ _ h => h) (Or.inl ⟨by rfl,?_⟩) (by assumption) ?_
          ·(intro W hSw; obtain ⟨y0,y1,y2⟩ := HCG.out W hSw; rw [← HSC.out] at y2; go_simp; try (with_reducible rfl))
          try simp only [Act.put,List.setIfInBounds_toArray,List.set_cons_zero,List.set_cons_succ]
          refine wpAnyH_take (oi := ⟨_,_,_,_,_,_⟩) (i := 3) (v := .pointer (some ⟨g,2,none⟩)) rfl (by kernel_rfl) (by kernel_rfl) (by kernel_rfl) (fun _ _ _ h => h) (Or.inl ⟨by rfl,?_⟩) (by assumption) ?_
          ·(intro W hSw; obtain ⟨y0,y1,y2⟩ := HCG.out W hSw; rw [← HSC.out] at y2; go_simp; try (with_reducible rfl))
          try simp only [Act.put,List.setIfInBounds_toArray,List.set_cons_zero,List.set_cons_succ]
          refine wpAnyH_take (oi := ⟨_,_,_,_,_,_⟩) (i := 4) (v := .string s) rfl (by kernel_rfl) (by kernel_rfl) (by kernel_rfl) (fun _ _ _ h => h) (Or.inl ⟨by rfl,?_⟩) (by assumption) ?_
          ·(intro W hSw; obtain ⟨y0,y1,y2⟩ := HCG.out W hSw; rw [← HSC.out] at y2; go_simp; try (with_reducible rfl))
          try simp only [Act.put,List.setIfInBounds_toArray,List.set_cons_zero,List.set_cons_succ]
          refine wpAnyH_take (oi := ⟨_,_,_,_,_,_⟩) (i := 5) (v := .int .i64 (n : Int)) rfl (by kernel_rfl) (by kernel_rfl) (by kernel_rfl) (fun _ _ _ h => h) (Or.inl ⟨by rfl,?_⟩) (by assumption) ?_
          ·(intro W hSw; obtain ⟨y0,y1,y2⟩ := HCG.out W hSw; rw [← HSC.out] at y2; go_simp; try (with_reducible rfl))
          try simp only [Act.put,List.setIfInBounds_toArray,List.set_cons_zero,List.set_cons_succ]
          refine wpAnyH_take (oi := ⟨_,_,_,_,_,_⟩) (i := 6) (v := .int .i64 (n : Int)) rfl (by kernel_rfl) (by kernel_rfl) (by kernel_rfl) (fun _ _ _ h => h) (Or.inl ⟨by rfl,?_⟩) (by assumption) ?_
          ·(intro W hSw; obtain ⟨y0,y1,y2⟩ := HCG.out W hSw; rw [← HSC.out] at y2; go_simp; try (with_reducible rfl))
          try simp only [Act.put,List.setIfInBounds_toArray,List.set_cons_zero,List.set_cons_succ]
          refine wpAnyH_take (oi := ⟨_,_,_,_,_,_⟩) (i := 7) (v := .int .i64 ((n : Int) + 1)) rfl (by kernel_rfl) (by kernel_rfl) (by kernel_rfl) (fun _ _ _ h => h) (Or.inl ⟨by rfl,?_⟩) (by assumption) ?_
          ·(intro W hSw; obtain ⟨y0,y1,y2⟩ := HCG.out W hSw; rw [← HSC.out] at y2; go_simp; try (with_reducible rfl))
          try simp only [Act.put,List.setIfInBounds_toArray,List.set_cons_zero,List.set_cons_succ]
          refine wpAnyH_take (oi := ⟨_,_,_,_,_,_⟩) (i := 8) (v := .string (s.extract n (n + 1))) rfl (by kernel_rfl) (by kernel_rfl) (by kernel_rfl) (fun _ _ _ h => h) (Or.inl ⟨by rfl,?_⟩) (by assumption) ?_
          ·(intro W hSw; obtain ⟨y0,y1,y2⟩ := HCG.out W hSw; rw [← HSC.out] at y2; go_simp; try (with_reducible rfl))
          try simp only [Act.put,List.setIfInBounds_toArray,List.set_cons_zero,List.set_cons_succ]
          refine wpAnyH_ready (rs := [1]) (by kernel_rfl) (by simp) ?_
          refine AllReadyH.cons (o := ⟨_,_,_,_,_,_⟩) rfl (fun K hK => ?_) ?_
          ·obtain ⟨x0,x1,x2,x3,x4,x5⟩ := hR.cells
           go_simp
           clear x0 x1 x2 x3 x4 x5
           refine hK.out _ _ hS (fun _ => ?_)
           clear hK K
           try simp only [Act.put,List.setIfInBounds_toArray,List.set_cons_zero,List.set_cons_succ]
           refine wpAnyH_take (oi := ⟨_,_,_,_,_,_⟩) (i := 9) (v := .string ys) rfl (by kernel_rfl) (by kernel_rfl) (by kernel_rfl) (fun _ _ _ h => h) (Or.inl ⟨by rfl,?_⟩) (by assumption) ?_
           ·(intro W hSw; obtain ⟨y0,y1,y2⟩ := HCG.out W hSw; rw [← HSC.out] at y2; go_simp; try (with_reducible rfl))
           try simp only [Act.put,List.setIfInBounds_toArray,List.set_cons_zero,List.set_cons_succ]
           refine wpAnyH_take (oi := ⟨_,_,_,_,_,_⟩) (i := 10) (v := .pointer (some ⟨gr,3,none⟩)) rfl (by kernel_rfl) (by kernel_rfl) (by kernel_rfl) (fun _ _ _ h => h) (Or.inl ⟨by rfl,?_⟩) (by assumption) ?_
           ·(intro W hSw; obtain ⟨y0,y1,y2⟩ := HCG.out W hSw; rw [← HSC.out] at y2; go_simp; try (with_reducible rfl))
           try simp only [Act.put,List.setIfInBounds_toArray,List.set_cons_zero,List.set_cons_succ]
           refine wpAnyH_ready (rs := [11]) (by kernel_rfl) (by simp) ?_
           refine AllReadyH.cons (o := ⟨_,_,_,_,_,_⟩) rfl (fun K hK => ?_) ?_
           ·obtain ⟨x0,x1,x2,x3,x4,x5⟩ := hR.cells
            have xf := hR.free
            go_simp
            clear x0 x1 x2 x3 x4 x5 xf
            replace hS : Below w2.heap.size w2 ((W).setCell ⟨gr,3,none⟩ (.string ys)) := hS.setCell (p := ⟨gr,3,none⟩) hge _
            replace hR : RB gr (op,a,digL b,tk ++ [ch],lv,true) ((W).setCell ⟨gr,3,none⟩ (.string ys)) := hR.set (by rw [hysH.out]; rfl)
            generalize (W).setCell ⟨gr,3,none⟩ (.string ys) = W1 at *
            refine hK.out _ _ hS (fun _ => ?_)
            clear hK K
            try simp only [Act.put,List.setIfInBounds_toArray,List.set_cons_zero,List.set_cons_succ]
            refine wpAnyH_done (by kernel_rfl) ?_ _
            (go_wp2_with fail)
            go_roundw
            case rel => exact ⟨n + 1,hn1.out,by go_num,by rw [HST.out],hS,by rw [HST.out]; exact hR⟩
            case measure => (first | (simp [intOf]; done) | (simp [intOf]; omega))
           exact AllReadyH.nil
          exact AllReadyH.nil
         ·have HST := hid (show sst c (n + 1) = (true,tk,lv ++ [ch]) by rw [HSU.out,HPP.out]; unfold stepS; simp [hc62H.out])
          have hadd := fun W => run_string_add_sum (P := Tryz.prog) W (str lv) (s.extract n (n + 1)) (by rw [str_size,ByteArray.size_extract]; have := HLE.out; omega)
          have hsn : str lv ++ s.extract n (n + 1) = str (lv ++ [ch]) := by rw [HSC.out,str_snoc lv c n hnl,hchH.out]
          rw [hsn] at hadd
          obtain ⟨ys,hys⟩ : ∃ ys,ys = str (lv ++ [ch]) := ⟨_,rfl⟩
          rw [← hys] at hadd
          have hysH := hid hys
          clear hsn hys
          go_wp2_with fail
          have hR := HRR.out.2.drew
          have hS := HRR.out.1.drew
          have hge := HG.out.1
          have hw1 : wrap64 ((n : Int) + 1) = (n : Int) + 1 := by unfold wrap64; omega
          have hb1 : (0 : Int) ≤ (n : Int) + 1 ∧ (n : Int) + 1 ≤ (c.length : Int) := by omega
          have hb2 : (n : Int) ≤ (n : Int) + 1 := by omega
          have hw2 : IntKind.i64.wrap ((n : Int) + 1) = (n : Int) + 1 := by rw [IntKind.wrap_i64]; unfold wrap64 at hw1; exact hw1
          refine wp_region_held_drew (S := Below w2.heap.size w2) (by kernel_rfl) hS (fun _ => ?_)
          clear y0 y1 y2
          generalize wr.drew = W at *
          refine wpAnyH_take (oi := ⟨_,_,_,_,_,_⟩) (i := 0) (v := .pointer (some ⟨gr,4,none⟩)) rfl (by kernel_rfl) (by kernel_rfl) (by kernel_rfl) (fun _ _ _ h => h) (Or.inl ⟨by rfl,?_⟩) (by assumption) ?_
          ·(intro W hSw; obtain ⟨y0,y1,y2⟩ := HCG.out W hSw; rw [← HSC.out] at y2; go_simp; try (with_reducible rfl))
          try simp only [Act.put,List.setIfInBounds_toArray,List.set_cons_zero,List.set_cons_succ]
          refine wpAnyH_take (oi := ⟨_,_,_,_,_,_⟩) (i := 2) (v := .slice (some ⟨g,0,none⟩) 3 cap) rfl (by kernel_rfl) (by kernel_rfl) (by kernel_rfl) (fun _ _ _ h => h) (Or.inl ⟨by rfl,?_⟩) (by assumption) ?_
          ·(intro W hSw; obtain ⟨y0,y1,y2⟩ := HCG.out W hSw; rw [← HSC.out] at y2; go_simp; try (with_reducible rfl))
          try simp only [Act.put,List.setIfInBounds_toArray,List.set_cons_zero,List.set_cons_succ]
          refine wpAnyH_take (oi := ⟨_,_,_,_,_,_⟩) (i := 3) (v := .pointer (some ⟨g,2,none⟩)) rfl (by kernel_rfl) (by kernel_rfl) (by kernel_rfl) (fun _ _ _ h => h) (Or.inl ⟨by rfl,?_⟩) (by assumption) ?_
          ·(intro W hSw; obtain ⟨y0,y1,y2⟩ := HCG.out W hSw; rw [← HSC.out] at y2; go_simp; try (with_reducible rfl))
          try simp only [Act.put,List.setIfInBounds_toArray,List.set_cons_zero,List.set_cons_succ]
          refine wpAnyH_take (oi := ⟨_,_,_,_,_,_⟩) (i := 4) (v := .string s) rfl (by kernel_rfl) (by kernel_rfl) (by kernel_rfl) (fun _ _ _ h => h) (Or.inl ⟨by rfl,?_⟩) (by assumption) ?_
          ·(intro W hSw; obtain ⟨y0,y1,y2⟩ := HCG.out W hSw; rw [← HSC.out] at y2; go_simp; try (with_reducible rfl))
          try simp only [Act.put,List.setIfInBounds_toArray,List.set_cons_zero,List.set_cons_succ]
          refine wpAnyH_take (oi := ⟨_,_,_,_,_,_⟩) (i := 5) (v := .int .i64 (n : Int)) rfl (by kernel_rfl) (by kernel_rfl) (by kernel_rfl) (fun _ _ _ h => h) (Or.inl ⟨by rfl,?_⟩) (by assumption) ?_
          ·(intro W hSw; obtain ⟨y0,y1,y2⟩ := HCG.out W hSw; rw [← HSC.out] at y2; go_simp; try (with_reducible rfl))
          try simp only [Act.put,List.setIfInBounds_toArray,List.set_cons_zero,List.set_cons_succ]
          refine wpAnyH_take (oi := ⟨_,_,_,_,_,_⟩) (i := 6) (v := .int .i64 (n : Int)) rfl (by kernel_rfl) (by kernel_rfl) (by kernel_rfl) (fun _ _ _ h => h) (Or.inl ⟨by rfl,?_⟩) (by assumption) ?_
          ·(intro W hSw; obtain ⟨y0,y1,y2⟩ := HCG.out W hSw; rw [← HSC.out] at y2; go_simp; try (with_reducible rfl))
          try simp only [Act.put,List.setIfInBounds_toArray,List.set_cons_zero,List.set_cons_succ]
          refine wpAnyH_take (oi := ⟨_,_,_,_,_,_⟩) (i := 7) (v := .int .i64 ((n : Int) + 1)) rfl (by kernel_rfl) (by kernel_rfl) (by kernel_rfl) (fun _ _ _ h => h) (Or.inl ⟨by rfl,?_⟩) (by assumption) ?_
          ·(intro W hSw; obtain ⟨y0,y1,y2⟩ := HCG.out W hSw; rw [← HSC.out] at y2; go_simp; try (with_reducible rfl))
          try simp only [Act.put,List.setIfInBounds_toArray,List.set_cons_zero,List.set_cons_succ]
          refine wpAnyH_take (oi := ⟨_,_,_,_,_,_⟩) (i := 8) (v := .string (s.extract n (n + 1))) rfl (by kernel_rfl) (by kernel_rfl) (by kernel_rfl) (fun _ _ _ h => h) (Or.inl ⟨by rfl,?_⟩) (by assumption) ?_
          ·(intro W hSw; obtain ⟨y0,y1,y2⟩ := HCG.out W hSw; rw [← HSC.out] at y2; go_simp; try (with_reducible rfl))
          try simp only [Act.put,List.setIfInBounds_toArray,List.set_cons_zero,List.set_cons_succ]
          refine wpAnyH_ready (rs := [1]) (by kernel_rfl) (by simp) ?_
          refine AllReadyH.cons (o := ⟨_,_,_,_,_,_⟩) rfl (fun K hK => ?_) ?_
          ·obtain ⟨x0,x1,x2,x3,x4,x5⟩ := hR.cells
           go_simp
           clear x0 x1 x2 x3 x4 x5
           refine hK.out _ _ hS (fun _ => ?_)
           clear hK K
           try simp only [Act.put,List.setIfInBounds_toArray,List.set_cons_zero,List.set_cons_succ]
           refine wpAnyH_take (oi := ⟨_,_,_,_,_,_⟩) (i := 9) (v := .string ys) rfl (by kernel_rfl) (by kernel_rfl) (by kernel_rfl) (fun _ _ _ h => h) (Or.inl ⟨by rfl,?_⟩) (by assumption) ?_
           ·(intro W hSw; obtain ⟨y0,y1,y2⟩ := HCG.out W hSw; rw [← HSC.out] at y2; go_simp; try (with_reducible rfl))
           try simp only [Act.put,List.setIfInBounds_toArray,List.set_cons_zero,List.set_cons_succ]
           refine wpAnyH_take (oi := ⟨_,_,_,_,_,_⟩) (i := 10) (v := .pointer (some ⟨gr,4,none⟩)) rfl (by kernel_rfl) (by kernel_rfl) (by kernel_rfl) (fun _ _ _ h => h) (Or.inl ⟨by rfl,?_⟩) (by assumption) ?_
           ·(intro W hSw; obtain ⟨y0,y1,y2⟩ := HCG.out W hSw; rw [← HSC.out] at y2; go_simp; try (with_reducible rfl))
           try simp only [Act.put,List.setIfInBounds_toArray,List.set_cons_zero,List.set_cons_succ]
           refine wpAnyH_ready (rs := [11]) (by kernel_rfl) (by simp) ?_
           refine AllReadyH.cons (o := ⟨_,_,_,_,_,_⟩) rfl (fun K hK => ?_) ?_
           ·obtain ⟨x0,x1,x2,x3,x4,x5⟩ := hR.cells
            have xf := hR.free
            go_simp
            clear x0 x1 x2 x3 x4 x5 xf
            replace hS : Below w2.heap.size w2 ((W).setCell ⟨gr,4,none⟩ (.string ys)) := hS.setCell (p := ⟨gr,4,none⟩) hge _
            replace hR : RB gr (op,a,digL b,tk,lv ++ [ch],true) ((W).setCell ⟨gr,4,none⟩ (.string ys)) := hR.set (by rw [hysH.out]; rfl)
            generalize (W).setCell ⟨gr,4,none⟩ (.string ys) = W1 at *
            refine hK.out _ _ hS (fun _ => ?_)
            clear hK K
            try simp only [Act.put,List.setIfInBounds_toArray,List.set_cons_zero,List.set_cons_succ]
            refine wpAnyH_done (by kernel_rfl) ?_ _
            (go_wp2_with fail)
            go_roundw
            case rel => exact ⟨n + 1,hn1.out,by go_num,by rw [HST.out],hS,by rw [HST.out]; exact hR⟩
            case measure => (first | (simp [intOf]; done) | (simp [intOf]; omega))
           exact AllReadyH.nil
          exact AllReadyH.nil
       ·obtain rfl : n = c.length := by have := hn.out; omega
        obtain ⟨x0,x1,x2,x3,x4,x5⟩ := HRR.out.2.cells
        have HRq := hid (HR2.out.call HRR.out.1)
        obtain ⟨z0,z1,z2,z3,z4,z5⟩ := HRq.out.cells
        have xf := HRR.out.2.free
        have zf := HRq.out.free
        go_wp2
        clear x0 x1 x2 x3 x4 x5 xf z0 z1 z2 z3 z4 z5 zf y0 y1 y2
        have hR3 := HRq.out.store op a (digL b) (sst c c.length).2.1 (sst c c.length).2.2 true
        exact bodyPost_ret (v := rwV (op,a,digL b,(sst c c.length).2.1,(sst c c.length).2.2,true)) (res9 _ _ _ _ hR3 rfl) rfl ⟨by rw [HOF.out,HE2.out],below_six (HB2.out.trans (HRR.out.1.mono HB2.out.size)) (Nat.le_refl _) _ _ _ _ _ _⟩
   ·have HE := hid (show ofText op t = rw0 by
     unfold ofText
     split
     ·rename_i a b c h
      rw [h] at h3
      exact absurd rfl h3
     ·rfl)
    rcases hown.2 with ⟨rfl,h⟩ | ⟨g,cap,cur,rfl,hbg,_,_,_,_,_⟩
    ·clear hown h3 h
     go_wp2_with (go_at_call 220; refine (HN _).out.mono ?_; rintro e w3 ⟨rfl,hb⟩; have HB3 := hid hb; have hR := HR2.out.call hb; obtain ⟨x0,x1,x2,x3,x4,x5⟩ := hR.cells; have xf := hR.free)
     have hR2 := hR.store (-1) [] 0 [] [] false
     obtain ⟨z0,z1,z2,z3,z4,z5⟩ := hR2.cells
     clear x0 x1 x2 x3 x4 x5 xf
     have hbe := below_six (HB2.out.trans (HB3.out.mono HB2.out.size)) (Nat.le_refl _) (.int .i64 (-1)) (.string ⟨#[]⟩) (.int .i64 0) (.string ⟨#[]⟩) (.string ⟨#[]⟩) (.bool false)
     refine bodyPost_ret (v := rwV rw0) ?_ rfl ⟨by rw [HOF.out,HE.out],hbe⟩
     exact res9 _ _ _ _ hR2 rfl
    ·obtain ⟨n,hn⟩ : ∃ n,n = (wordsL t).length := ⟨_,rfl⟩
     rw [← hn] at h3 ⊢
     have hn3 : ((n : Int) != 3) = true := by simp; omega
     clear hown hn h3
     go_wp2_with (go_at_call 220; refine (HN _).out.mono ?_; rintro e w3 ⟨rfl,hb⟩; have HB3 := hid hb; have hR := HR2.out.call hb; obtain ⟨x0,x1,x2,x3,x4,x5⟩ := hR.cells; have xf := hR.free)
     have hR2 := hR.store (-1) [] 0 [] [] false
     obtain ⟨z0,z1,z2,z3,z4,z5⟩ := hR2.cells
     clear x0 x1 x2 x3 x4 x5 xf
     have hbe := below_six (HB2.out.trans (HB3.out.mono HB2.out.size)) (Nat.le_refl _) (.int .i64 (-1)) (.string ⟨#[]⟩) (.int .i64 0) (.string ⟨#[]⟩) (.string ⟨#[]⟩) (.bool false)
     refine bodyPost_ret (v := rwV rw0) ?_ rfl ⟨by rw [HOF.out,HE.out],hbe⟩
     exact res9 _ _ _ _ hR2 rfl
end Go.Proofs.YtjgeedgphcjhoaaGreat
