/-
  SpQ: what a copy is in memory, and what becomes of it (the text says what it holds where it lies in wip). No condition.
-/
import Derived.Test.YtjgeedgphcjhoaaGreatT24
import Derived.Test.YtjgeedgphcjhoaaGreatT08
import Derived.Test.YtjgeedgphcjhoaaGreatT14
import Derived.Test.YtjgeedgphcjhoaaGreatV35
import Derived.Test.YtjgeedgphcjhoaaGreatV32
set_option linter.unusedSimpArgs false
set_option linter.unusedVariables false
set_option maxRecDepth 100000
namespace Go.Proofs.YtjgeedgphcjhoaaGreat
open Go.RowKit
def AL (B : Nat) (w w' : World) : Prop := ∀ b,b < B → w'.heap[b]? = w.heap[b]?
theorem AL.cell {B b k : Nat} {w w' : World} {v : Value} (h : AL B w w') (hb : b < B) (hc : w.cell? ⟨b,k,none⟩ = some v) : w'.cell? ⟨b,k,none⟩ = some v := by
 rw [World.cell?] at hc ⊢
 rw [h b hb]
 exact hc
theorem AL.frozen {B b k : Nat} {w w' : World} (h : AL B w w') (hb : b < B) (hc : w.frozen? ⟨b,k,none⟩ = false) : w'.frozen? ⟨b,k,none⟩ = false := by
 rw [World.frozen?] at hc ⊢
 rw [h b hb]
 exact hc
theorem WI.al {s B : Nat} {w w' : World} {v : Value} (h : WI s B w v) (hk : AL B w w') : WI s B w' v := by
 obtain ⟨p,n,c,rfl,hn,h⟩ := h
 refine ⟨p,n,c,rfl,hn,fun h0 => ?_⟩
 obtain ⟨g,o,rfl,h1,h2,h3,h4⟩ := h h0
 exact ⟨g,o,rfl,h1,h2,fun k => hk.frozen h2 (h3 k),fun j hj => by obtain ⟨x,hx⟩ := h4 j hj; exact ⟨x,hk.cell h2 hx⟩⟩
theorem WY.al {s B : Nat} {w w' : World} {v : Value} (h : WY s B w v) (hk : AL B w w') : WY s B w' v := by
 obtain ⟨p,n,c,rfl,hn,h⟩ := h
 refine ⟨p,n,c,rfl,hn,fun h0 => ?_⟩
 obtain ⟨g,o,rfl,h1,h2,h3,h4⟩ := h h0
 exact ⟨g,o,rfl,h1,h2,fun k => hk.frozen h2 (h3 k),fun j hj => by obtain ⟨x,hx⟩ := h4 j hj; exact ⟨x,hk.cell h2 hx⟩⟩
theorem WF.al {s B : Nat} {w w' : World} (hk : AL B w w') : ∀ (f : Fo) (g o : Nat),WF s B w f g o → WF s B w' f g o := by
 intro f
 induction f with
 | nil => intro g o h; trivial
 | cons op a b n h l ot body els rest ihb ihe ihr =>
  rintro g o ⟨⟨g1,g2,g3⟩,⟨op,vl,vb,ve,h0,h5,h6,h7,hl,hb,he⟩,hr⟩
  refine ⟨⟨g1,g2,hk.frozen g2 g3⟩,⟨op,vl,vb,ve,hk.cell g2 h0,hk.cell g2 h5,hk.cell g2 h6,hk.cell g2 h7,hl.al hk,?_,?_⟩,ihr _ _ hr⟩
  ·rcases hb with h | ⟨p,c,g',o',h1,h2,h3⟩
   ·exact .inl h
   ·exact .inr ⟨p,c,g',o',h1,h2,ihb _ _ h3⟩
  ·rcases he with h | ⟨p,c,g',o',h1,h2,h3⟩
   ·exact .inl h
   ·exact .inr ⟨p,c,g',o',h1,h2,ihe _ _ h3⟩
theorem WS.al {s B : Nat} {w w' : World} {v : Value} {f : Fo} (h : WS s B w v f) (hk : AL B w w') : WS s B w' v f := by
 rcases h with h | ⟨p,c,g,o,h1,h2,h3⟩
 ·exact .inl h
 ·exact .inr ⟨p,c,g,o,h1,h2,WF.al hk _ _ _ h3⟩
theorem SC.al {B : Nat} {w w' : World} {Q : World → Value → Prop} {b k : Nat} (hk : AL B w w') (hb : b < B) (h1 : ∀ v,Q w v → Q w' v) (h : SC Q w b k) : SC Q w' b k := by
 obtain ⟨p,n,c,hc,hq⟩ := h
 exact ⟨p,n,c,hk.cell hb hc,h1 _ hq⟩
theorem WK.al {s B : Nat} {w w' : World} {v : Value} {F : Nat → Fo} (h : WK s B w v F) (hk : AL B w w') : WK s B w' v F := by
 obtain ⟨p,n,c,rfl,hn,h⟩ := h
 refine ⟨p,n,c,rfl,hn,fun h0 => ?_⟩
 obtain ⟨g,o,rfl,hB,h1⟩ := h h0
 exact ⟨g,o,rfl,hB,fun j hj => ⟨(h1 j hj).1,(h1 j hj).2.al hk hB (fun v h => h.al hk)⟩⟩
theorem WM.al {s B : Nat} {D : WBox} {w w' : World} (h : WM s B D w) (hk : AL B w w') : WM s B D w' where
 th := h.th
 tg := h.tg
 tz := fun h0 k => hk.frozen (h.tg h0).2.2 (h.tz h0 k)
 imh := h.imh
 img := h.img
 imz := fun h0 k => hk.frozen (h.img h0).2.2 (h.imz h0 k)
 fh := h.fh
 fg := h.fg
 fz := fun h0 k => hk.frozen (h.fg h0).2.2 (h.fz h0 k)
 tbh := h.tbh
 tbg := h.tbg
 tbz := fun h0 k => hk.frozen (h.tbg h0).2.2 (h.tbz h0 k)
 mh := h.mh
 mg := h.mg
 mz := fun h0 k => hk.frozen (h.mg h0).2.2 (h.mz h0 k)
 gh := h.gh
 gg := h.gg
 gz := fun h0 k => hk.frozen (h.gg h0).2.2 (h.gz h0 k)
 xh := h.xh
 xg := h.xg
 xz := fun h0 k => hk.frozen (h.xg h0).2.2 (h.xz h0 k)
 eh := h.eh
 eg := h.eg
 ez := fun h0 k => hk.frozen (h.eg h0).2.2 (h.ez h0 k)
 dh := h.dh
 dg := h.dg
 dz := fun h0 k => hk.frozen (h.dg h0).2.2 (h.dz h0 k)
 t0 := fun i hi => (h.t0 i hi).al hk (h.tg (by omega)).2.2 (fun v h => h.al hk)
 t1 := fun i hi => (h.t1 i hi).al hk (h.tg (by omega)).2.2 (fun v h => h.al hk)
 f1 := fun i hi => (h.f1 i hi).al hk (h.fg (by omega)).2.2 (fun v h => h.al hk)
 f2 := fun i hi => (h.f2 i hi).al hk (h.fg (by omega)).2.2 (fun v h => h.al hk)
 g2 := fun i hi => (h.g2 i hi).al hk (h.gg (by omega)).2.2 (fun v h => h.al hk)
 e3 := fun i hi => (h.e3 i hi).al hk (h.eg (by omega)).2.2 (fun v h => h.al hk)
 e4 := fun i hi => (h.e4 i hi).al hk (h.eg (by omega)).2.2 (fun v h => h.al hk)
 d2 := fun i hi => (h.d2 i hi).al hk (h.dg (by omega)).2.2 (fun v h => h.al hk)
 d3 := fun i hi => (h.d3 i hi).al hk (h.dg (by omega)).2.2 (fun v h => h.al hk)
 x2 := fun i hi => by obtain ⟨x,hx⟩ := h.x2 i hi; exact ⟨x,hk.cell (h.xg (by omega)).2.2 hx⟩
 tb0 := fun i hi => by obtain ⟨x,hx⟩ := h.tb0 i hi; exact ⟨x,hk.cell (h.tbg (by omega)).2.2 hx⟩
 m0 := fun i hi => by obtain ⟨x,hx⟩ := h.m0 i hi; exact ⟨x,hk.cell (h.mg (by omega)).2.2 hx⟩
 im1 := fun i hi => by obtain ⟨x,hx⟩ := h.im1 i hi; exact ⟨x,hk.cell (h.img (by omega)).2.2 hx⟩
 fk := h.fk
 gk := h.gk
 ek := h.ek
 dk := h.dk
theorem few_ltV {f : Fo} (h : 0 ≤ wg f 0 3000) : f.cnt < 9223372036854775806 := by have := few_cnt f h; omega
theorem LP.wi {s : Nat} {w : World} {v : Value} {l : List Int} (h : LP s w v l) : WI s w.heap.size w v := by
 obtain ⟨p,c,rfl,hq,h⟩ := h
 refine ⟨p,l.length,c,rfl,hq,fun hn => ?_⟩
 obtain ⟨g,o,rfl,hg,hz,hc⟩ := h (fun e => hn (by rw [e]; rfl))
 refine ⟨g,o,rfl,hg,cell_in (hc 0 _ (List.getElem?_eq_getElem (Nat.pos_of_ne_zero hn))),hz,fun j hj => ⟨_,hc j _ (List.getElem?_eq_getElem hj)⟩⟩
theorem FP.wf {s : Nat} {w : World} : ∀ (f : Fo) (g o : Nat),FP s w f g o → WF s w.heap.size w f g o := by
 intro f
 induction f with
 | nil => intro g o h; trivial
 | cons op a b n h l ot body els rest ihb ihe ihr =>
  rintro g o ⟨hg,⟨vl,vb,ve,h0,h1,h2,h3,h4,h5,h6,h7,h8,hl,⟨p,c,g',o',e1,e2,e3⟩,⟨p2,c2,g2,o2,f1,f2,f3⟩⟩,hr⟩
  exact ⟨⟨hg.1,cell_in h0,hg.2⟩,⟨op,vl,vb,ve,h0,h5,h6,h7,hl.wi,.inr ⟨p,c,g',o',e1,e2,ihb _ _ e3⟩,.inr ⟨p2,c2,g2,o2,f1,f2,ihe _ _ f3⟩⟩,ihr _ _ hr⟩
theorem SP.ws {s : Nat} {w : World} {v : Value} {f : Fo} (h : SP s w v f) : WS s w.heap.size w v f := by
 obtain ⟨p,c,g,o,e1,e2,e3⟩ := h
 exact .inr ⟨p,c,g,o,e1,e2,FP.wf _ _ _ e3⟩
theorem CpM.wm {A : MD} {s : Nat} {W : World} {v : Value} (hf : FitM A) (h : CpM A s W v) : ∃ D : WBox,v = .agg D.arr ∧ WM s W.heap.size D W := by
 obtain ⟨qt,qim,qf,qtb,qm,qg,qx,qe,qd,rfl,ht,him,hf,htb,hm,hg,hx,he,hd⟩ := h
 obtain ⟨lt,bt,Tt,rt,et⟩ := ht
 obtain ⟨pt,_,ct⟩ := qt
 dsimp only at lt rt
 subst lt
 obtain ⟨lim,bim,Tim,rim,eim⟩ := him
 obtain ⟨pim,_,cim⟩ := qim
 dsimp only at lim rim
 subst lim
 obtain ⟨lf,bf,Tf,rf,ef⟩ := hf
 obtain ⟨pf,_,cf⟩ := qf
 dsimp only at lf rf
 subst lf
 obtain ⟨ltb,btb,Ttb,rtb,etb⟩ := htb
 obtain ⟨ptb,_,ctb⟩ := qtb
 dsimp only at ltb rtb
 subst ltb
 obtain ⟨lm,bm,Tm,rm,em⟩ := hm
 obtain ⟨pm,_,cm⟩ := qm
 dsimp only at lm rm
 subst lm
 obtain ⟨lg,bg,Tg,rg,eg⟩ := hg
 obtain ⟨pg,_,cg⟩ := qg
 dsimp only at lg rg
 subst lg
 obtain ⟨lx,bx,Tx,rx,ex⟩ := hx
 obtain ⟨px,_,cx⟩ := qx
 dsimp only at lx rx
 subst lx
 obtain ⟨le,be,Te,re,ee⟩ := he
 obtain ⟨pe,_,ce⟩ := qe
 dsimp only at le re
 subst le
 obtain ⟨ld,bd,Td,rd,ed⟩ := hd
 obtain ⟨pd,_,cd⟩ := qd
 dsimp only at ld rd
 subst ld
 refine ⟨⟨pt,A.tn,ct,bt,pim,A.imn,cim,bim,pf,A.fn,cf,bf,ptb,A.tbn,ctb,btb,pm,A.mn,cm,bm,pg,A.gn,cg,bg,px,A.xn,cx,bx,pe,A.en,ce,be,pd,A.dn,cd,bd,fun i => (Tf i).f,fun i => (Tg i).f,fun i => (Te i).f,fun i => (Td i).f,fun i => (Te i).g,A.st,A.cnt⟩,rfl,?_⟩
 constructor
 ·have := hf.tn; dsimp only; omega
 ·exact fun h0 => ⟨(rt h0).1,(rt h0).2.1,(rt h0).2.2.1⟩
 ·exact fun h0 => (rt h0).2.2.2
 ·have := hf.imn; dsimp only; omega
 ·exact fun h0 => ⟨(rim h0).1,(rim h0).2.1,(rim h0).2.2.1⟩
 ·exact fun h0 => (rim h0).2.2.2
 ·have := hf.fn; dsimp only; omega
 ·exact fun h0 => ⟨(rf h0).1,(rf h0).2.1,(rf h0).2.2.1⟩
 ·exact fun h0 => (rf h0).2.2.2
 ·have := hf.tbn; dsimp only; omega
 ·exact fun h0 => ⟨(rtb h0).1,(rtb h0).2.1,(rtb h0).2.2.1⟩
 ·exact fun h0 => (rtb h0).2.2.2
 ·have := hf.mn; dsimp only; omega
 ·exact fun h0 => ⟨(rm h0).1,(rm h0).2.1,(rm h0).2.2.1⟩
 ·exact fun h0 => (rm h0).2.2.2
 ·have := hf.gn; dsimp only; omega
 ·exact fun h0 => ⟨(rg h0).1,(rg h0).2.1,(rg h0).2.2.1⟩
 ·exact fun h0 => (rg h0).2.2.2
 ·have := hf.xn; dsimp only; omega
 ·exact fun h0 => ⟨(rx h0).1,(rx h0).2.1,(rx h0).2.2.1⟩
 ·exact fun h0 => (rx h0).2.2.2
 ·have := hf.en; dsimp only; omega
 ·exact fun h0 => ⟨(re h0).1,(re h0).2.1,(re h0).2.2.1⟩
 ·exact fun h0 => (re h0).2.2.2
 ·have := hf.dn; dsimp only; omega
 ·exact fun h0 => ⟨(rd h0).1,(rd h0).2.1,(rd h0).2.2.1⟩
 ·exact fun h0 => (rd h0).2.2.2
 ·exact fun i hi => ⟨_,_,_,(et i hi).1 0 _ rfl,(et i hi).2.2.1.wi⟩
 ·exact fun i hi => ⟨_,_,_,(et i hi).1 1 _ rfl,(et i hi).2.2.2.wi⟩
 ·exact fun i hi => ⟨_,_,_,(ef i hi).1 1 _ rfl,(ef i hi).2.2.1.wi⟩
 ·exact fun i hi => ⟨_,_,_,(ef i hi).1 2 _ rfl,(ef i hi).2.2.2.ws⟩
 ·exact fun i hi => ⟨_,_,_,(eg i hi).1 2 _ rfl,(eg i hi).2.2.ws⟩
 ·exact fun i hi => ⟨_,_,_,(ee i hi).1 3 _ rfl,(ee i hi).2.2.1.ws⟩
 ·intro i hi
  obtain ⟨hc,⟨a1,a2,a3,a4,a5,a6⟩,s1,k1,k2⟩ := ee i hi
  have hng := (hf.e i hi).2
  have hek := hf.ek i hi
  rw [← a5] at hng hek
  refine ⟨_,_,_,hc 4 _ rfl,_,_,_,rfl,by omega,fun h0 => ⟨(Te i).bg,(Te i).og,(k1 h0).1,cell_in (k2 0 (Nat.pos_of_ne_zero h0)).1,fun j hj => ⟨?_,_,_,_,(k2 j hj).1,(k2 j hj).2.ws⟩⟩⟩
  have := few_ltV (hek j hj)
  rw [← a6 j hj] at this
  dsimp only
  omega
 ·exact fun i hi => ⟨_,_,_,(ed i hi).1 2 _ rfl,(ed i hi).2.2.1.ws⟩
 ·intro i hi
  obtain ⟨hc,⟨a1,a2,a3,a4⟩,s1,y1⟩ := ed i hi
  have hbl := (hf.d i hi).2
  rw [← a4] at hbl
  refine ⟨_,_,_,hc 3 _ rfl,_,_,_,rfl,by omega,fun hn => ?_⟩
  obtain ⟨g,o,e1,hg,hz,hcc⟩ := y1 (fun e => hn (by rw [e]; rfl))
  exact ⟨g,o,e1,hg,cell_in (hcc 0 _ (List.getElem?_eq_getElem (Nat.pos_of_ne_zero hn))),hz,fun j hj => ⟨_,hcc j _ (List.getElem?_eq_getElem hj)⟩⟩
 ·exact fun i hi => ⟨_,(ex i hi).1 2 _ rfl⟩
 ·exact fun i hi => ⟨_,(eim i hi).1 1 _ rfl⟩
 ·exact fun i hi => ⟨_,(etb i hi).1 0 _ rfl⟩
 ·exact fun i hi => ⟨_,(em i hi).1 0 _ rfl⟩
 ·intro i hi; dsimp only; rw [(ef i hi).2.1.2.2]; have := few_ltV (hf.f i hi).1; omega
 ·intro i hi; dsimp only; rw [(eg i hi).2.1.2.2]; have := few_ltV (hf.g i hi); omega
 ·intro i hi; dsimp only; rw [(ee i hi).2.1.2.2.2.1]; have := few_ltV (hf.e i hi).1; omega
 ·intro i hi; dsimp only; rw [(ed i hi).2.1.2.2.1]; have := few_ltV (hf.d i hi).1; omega
end Go.Proofs.YtjgeedgphcjhoaaGreat
