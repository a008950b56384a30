/-
  ROf, OneK: merged, what the law does not reach left out (each text says what it holds where it lies in wip). No condition.
-/
import Derived.Test.YtjgeedgphcjhoaaGreatS02
import Derived.Deep.RegionHeld3
import Derived.Deep.DeepCutAuto
import Derived.Deep.CutBlock
import Derived.Test.YtjgeedgphcjhoaaGreatS01
set_option linter.unusedSimpArgs false
set_option linter.unusedVariables false
set_option maxRecDepth 100000
set_option maxHeartbeats 64000000
namespace Go.Proofs.YtjgeedgphcjhoaaGreat
open Go.RowKit
open Value renaming int → I,slice → V,bool → G,string → Qs,pointer → Qp
open IntKind renaming i64 → J,u64 → O
open Ending renaming returned → Qr
open Obj renaming cells → Qc
open _root_.Go.Proofs.Tryz renaming prog → QP
open Nat renaming le_refl → Ql,le_of_lt → Qo
open Below renaming refl → QB
open Act renaming put → Qu
def rwz:Rw:=(0,[],0,[],[],false)
def rwCells (r:Rw):Array Value:=#[I J r.1,Qs (str r.2.1),I J r.2.2.1,Qs (str r.2.2.2.1),Qs (str r.2.2.2.2.1),G r.2.2.2.2.2]
def RB (g:Nat) (r:Rw) (W:World):Prop:=W.heap[g]?=some (.cells (rwCells r) 172 (0,0))
theorem RB.lt {g:Nat} {r:Rw} {W:World} (h:RB g r W):g<W.heap.size:=(Array.getElem?_eq_some_iff.1 h).1
theorem RB.new (w:World):RB w.heap.size rwz (w.alloc (.cells (rwCells rwz) 172)):=by
 show (w.heap.push _)[w.heap.size]?=_
 simp
theorem RB.call {g:Nat} {r:Rw} {W W':World} (h:RB g r W) (hb:Below W.heap.size W W'):RB g r W':=by
 unfold RB at h ⊢
 rw[hb.block g (RB.lt h),h]
theorem RB.alloc {g:Nat} {r:Rw} {W:World} (h:RB g r W) (o:Obj):RB g r (W.alloc o):=h.call ((QB _ _).alloc (Ql _) o)
theorem RB.drew {g:Nat} {r:Rw} {W:World} (h:RB g r W):RB g r W.drew:=h
theorem RB.cells {g:Nat} {r:Rw} {W:World} (h:RB g r W):W.cell? ⟨g,0,none⟩=some (I J r.1)∧W.cell? ⟨g,1,none⟩=some (Qs (str r.2.1))∧W.cell? ⟨g,2,none⟩=some (I J r.2.2.1)∧W.cell? ⟨g,3,none⟩=some (Qs (str r.2.2.2.1))∧W.cell? ⟨g,4,none⟩=some (Qs (str r.2.2.2.2.1))∧W.cell? ⟨g,5,none⟩=some (G r.2.2.2.2.2):=by
 unfold RB at h
 refine ⟨?_,?_,?_,?_,?_,?_⟩<;>(rw[World.cell?,h];rfl)
theorem RB.free {g:Nat} {r:Rw} {W:World} (h:RB g r W) (k:Nat):W.frozen? ⟨g,k,none⟩=false:=by
 unfold RB at h
 rw[World.frozen?,h]
 simp
theorem RB.set {g k:Nat} {r r':Rw} {W:World} {v:Value} (h:RB g r W) (he:(rwCells r).setIfInBounds k v=rwCells r'):RB g r' (W.setCell ⟨g,k,none⟩ v):=by
 unfold RB at h ⊢
 rw[World.setCell,Array.getElem?_modify,if_pos rfl,h]
 simp only[Option.map_some]
 rw[←he]
 rfl
theorem RB.store {g:Nat} {r:Rw} {W:World} (h:RB g r W) (a:Int) (b:List UInt8) (c:Int) (d e:List UInt8) (f:Bool) :
  RB g (a,b,c,d,e,f) ((((((W.setCell ⟨g,0,none⟩ (I J a)).setCell ⟨g,1,none⟩ (Qs (str b))).setCell ⟨g,2,none⟩ (I J c)).setCell ⟨g,3,none⟩ (Qs (str d))).setCell ⟨g,4,none⟩ (Qs (str e))).setCell ⟨g,5,none⟩ (G f)):=by
 obtain ⟨a0,b0,c0,d0,e0,f0⟩:=r
 exact (((((h.set (r':=(a,b0,c0,d0,e0,f0)) rfl).set (r':=(a,b,c0,d0,e0,f0)) rfl).set (r':=(a,b,c,d0,e0,f0)) rfl).set (r':=(a,b,c,d,e0,f0)) rfl).set (r':=(a,b,c,d,e,f0)) rfl).set (r':=(a,b,c,d,e,f)) rfl
theorem below_six {B g:Nat} {w W:World} (h:Below B w W) (hg:B≤g) (v0 v1 v2 v3 v4 v5:Value) :
  Below B w ((((((W.setCell ⟨g,0,none⟩ v0).setCell ⟨g,1,none⟩ v1).setCell ⟨g,2,none⟩ v2).setCell ⟨g,3,none⟩ v3).setCell ⟨g,4,none⟩ v4).setCell ⟨g,5,none⟩ v5) :=
 (((((h.setCell (p:=⟨g,0,none⟩) hg _).setCell (p:=⟨g,1,none⟩) hg _).setCell (p:=⟨g,2,none⟩) hg _).setCell (p:=⟨g,3,none⟩) hg _).setCell (p:=⟨g,4,none⟩) hg _).setCell (p:=⟨g,5,none⟩) hg _
theorem size24:(Tryz.prog.info? 172).map (·.size)=some 6:=by kernel_rfl
theorem res9 (tmps:Array Value) (W:World) (g:Nat) (r:Rw) (h:RB g r W) (hp:tmps.getD 2 undef=Qp (some ⟨g,0,none⟩)):(results Tryz.f153 tmps).run QP W=.ok (rwV r) W:=by
 have hl:=run_loadVar_row (P:=QP) W g 172 172 (rwCells r) (0,0) _ h Tryz.underlying172 rfl size24
 unfold results
 rw[show Tryz.f153.results=#[.cell 2 172] by kernel_rfl]
 rw[Array.getD_eq_getD_getElem?]at hp
 simp[hp,asAddr,hl]
 rfl
theorem sst_succ (l:List UInt8) (n:Nat) (h:n<l.length):sst l (n+1)=stepS (sst l n) l[n]:=by
 unfold sst
 rw[List.take_add_one,List.getElem?_eq_getElem h,List.foldl_append]
 rfl
theorem sst_len (l:List UInt8):∀n,(sst l n).2.1.length≤n∧(sst l n).2.2.length≤n
 |0=>by simp[sst]
 |n+1=>by
  have ih:=sst_len l n
  by_cases h:n<l.length
  ·rw[sst_succ l n h]
   generalize sst l n=p at ih
   obtain ⟨b,t,v⟩:=p
   simp only[stepS]at ih ⊢
   split
   ·simp at ih ⊢;omega
   split<;>(simp at ih ⊢;omega)
  have e:sst l (n+1)=sst l n:=by unfold sst;rw[List.take_of_length_le (by omega),List.take_of_length_le (by omega)]
  rw[e];omega
theorem Of_says (op:Int) (w:World):Calls QP 153 #[I J op] w fun e w'=>e=Qr (rwV (ofL op))∧Below w.heap.size w w':=by
 have hok:=text_ok op
 obtain ⟨t,ht⟩:∃t,t=textOf op:=⟨_,rfl⟩
 have HOF:=hid (show ofL op=ofText op t by rw[ht];rfl)
 rw[←ht]at hok
 have HOK:=hid hok
 have HT:=hid ht
 clear hok ht
 go_enter Tryz.func153,Tryz.ntmps153
 go_upto_region 2 with fail
 obtain ⟨b,hb⟩:∃b,b=decide (0≤op∧op<211):=⟨_,rfl⟩
 go_cut [13] (fun s wx=>s=G b∧wx=w.alloc (.cells (rwCells rwz) 172))
 case first =>
  by_cases d0:0≤op
  ·by_cases d1:op<211
   ·rw[decide_eq_true ⟨d0,d1⟩]at hb
    subst hb
    go_wp2
    go_meet
    exact ⟨rfl,rfl⟩
   rw[decide_eq_false (fun h=>d1 h.2)]at hb
   subst hb
   go_wp2
   go_meet
   exact ⟨rfl,rfl⟩
  rw[decide_eq_false (fun h=>d0 h.1)]at hb
  subst hb
  go_wp2
  go_meet
  exact ⟨rfl,rfl⟩
 obtain ⟨rfl,rfl⟩:=hcut
 go_upto_if 13 with fail
 go_cut [3] (fun s3 wx=>s3=Qs (str t)∧Hid (Below (w.alloc (.cells (rwCells rwz) 172)).heap.size (w.alloc (.cells (rwCells rwz) 172)) wx))
 case first =>
  have hr0:0≤op∧op<211∨64512≤op∧op<64530∨64768≤op∧op<65024∨op<0∨(211≤op∧op<64512)∨(64530≤op∧op<64768)∨65024≤op:=by omega
  rcases hr0 with c1|c1|c1|c1
  ·rw[decide_eq_true c1]at hb
   subst hb
   obtain ⟨k,rfl⟩:∃k:Nat,op=k:=⟨op.toNat,by omega⟩
   have H:=fun W=>hid (one_says k (by omega) W)
   have e:t=tabOne.getD k []:=by rw[HT.out];unfold textOf;rw[if_pos c1];rfl
   rw[←e]at H
   obtain ⟨s,hs⟩:∃s,s=str t:=⟨_,rfl⟩
   rw[←hs]at H
   have HSS:=hid hs
   clear e hs
   go_wp2_with (go_at_call 216;refine (H _).out.mono ?_;rintro e w1 ⟨rfl,hb⟩)
   go_meet
   exact ⟨by rw[←HSS.out],by assumption⟩
  ·rw[decide_eq_false (by omega)]at hb
   subst hb
   obtain ⟨k,rfl⟩:∃k:Nat,op=64512+k:=⟨(op-64512).toNat,by omega⟩
   have e2:64512+(k:Int)-64512=(k:Int):=by omega
   have H:=fun W=>hid (two_says k (by omega) W)
   rw[←e2]at H
   have e:t=tabTwo.getD k []:=by rw[HT.out];unfold textOf;rw[if_neg (by omega),if_pos c1,show (64512+(k:Int)-64512).toNat=k by omega]
   rw[←e]at H
   obtain ⟨s,hs⟩:∃s,s=str t:=⟨_,rfl⟩
   rw[←hs]at H
   have HSS:=hid hs
   have hw:wrap64 (64512+(k:Int)-64512)=64512+(k:Int)-64512:=by unfold wrap64;omega
   obtain ⟨d0,d1⟩:=c1
   clear e2
   clear e hs
   go_wp2_with (go_at_call 217;refine (H _).out.mono ?_;rintro e w1 ⟨rfl,hb⟩)
   go_meet
   exact ⟨by rw[←HSS.out],by assumption⟩
  ·rw[decide_eq_false (by omega)]at hb
   subst hb
   obtain ⟨k,rfl⟩:∃k:Nat,op=64768+k:=⟨(op-64768).toNat,by omega⟩
   have e2:64768+(k:Int)-64768=(k:Int):=by omega
   have H:=fun W=>hid (three_says k (by omega) W)
   rw[←e2]at H
   have e:t=tabThree.getD k []:=by rw[HT.out];unfold textOf;rw[if_neg (by omega),if_neg (by omega),if_pos c1,show (64768+(k:Int)-64768).toNat=k by omega]
   rw[←e]at H
   obtain ⟨s,hs⟩:∃s,s=str t:=⟨_,rfl⟩
   rw[←hs]at H
   have HSS:=hid hs
   have hw:wrap64 (64768+(k:Int)-64768)=64768+(k:Int)-64768:=by unfold wrap64;omega
   obtain ⟨d0,d1⟩:=c1
   clear e2
   have d2:¬64768+(k:Int)<64530:=by omega
   have d3:(64512:Int)≤64768+(k:Int):=by omega
   clear e hs
   go_wp2_with (go_at_call 218;refine (H _).out.mono ?_;rintro e w1 ⟨rfl,hb⟩)
   go_meet
   exact ⟨by rw[←HSS.out],by assumption⟩
  rw[decide_eq_false (by omega)]at hb
  subst hb
  have e:str t=⟨#[]⟩:=by rw[HT.out,text_out op (by rw[mem_rangeOps];omega)];rfl
  have HSS:=hid e
  rcases c1 with c1|c1|c1|c1
  ·have d1:¬(64512:Int)≤op:=by omega
   have d2:¬(64768:Int)≤op:=by omega
   clear c1 e
   go_wp2
   go_meet
   exact ⟨by rw[HSS.out],QB _ _⟩
  ·have d1:¬(64512:Int)≤op:=by omega
   have d2:¬(64768:Int)≤op:=by omega
   clear c1 e
   go_wp2
   go_meet
   exact ⟨by rw[HSS.out],QB _ _⟩
  ·have d1:(64512:Int)≤op:=by omega
   have d2:¬(64768:Int)≤op:=by omega
   have d3:¬op<64530:=by omega
   clear c1 e
   go_wp2
   go_meet
   exact ⟨by rw[HSS.out],QB _ _⟩
  have d1:(64512:Int)≤op:=by omega
  have d2:(64768:Int)≤op:=by omega
  have d3:¬op<64530:=by omega
  have d4:¬op<65024:=by omega
  clear c1 e
  go_wp2
  go_meet
  exact ⟨by rw[HSS.out],QB _ _⟩
 obtain ⟨rfl,HW0⟩:=hcut
 have HB0:=hid (((QB w.heap.size w).alloc (Ql _) (.cells (rwCells rwz) 172)).trans (HW0.out.mono (by simp)))
 have HR0:=hid ((RB.new w).call HW0.out)
 have hlen:t.length≤100:=by
  have:=HOK.out
  unfold okText at this
  simp only[Bool.and_eq_true,decide_eq_true_eq]at this
  exact this.1
 have H26:=fun W=>hid (words_says t hlen W)
 have HN:∀W,Hid (Calls QP 220 #[] W fun e w'=>e=Qr (.agg #[I J (-1),Qs ⟨#[]⟩,I J 0,Qs ⟨#[]⟩,Qs ⟨#[]⟩,G false])∧Below W.heap.size W w'):=fun W=>none_says W
 clear hlen HT
 go_upto_region 9 with (go_at_call 219;refine (H26 _).out.mono ?_;rintro e w2 ⟨v,rfl,hown,hb⟩)
 have HB2:=Qd HB0 hb
 have HR2:=hid (HR0.out.call hb)
 clear hb HR0 HB0 HW0 H26
 by_cases h3:(wordsL t).length=3
 ·obtain ⟨a,b,c,hab⟩:∃a b c,wordsL t=[a,b,c]:=by
   match hm:wordsL t,h3 with
   | [a,b,c],_=>exact ⟨a,b,c,rfl⟩
  rw[hab]at hown
  rcases hown.2 with ⟨_,h⟩|⟨g,cap,cur,rfl,hbg,_,_,_,_,_⟩
  ·simp at h
  have hown':w2.ownsRow wc.heap.size 9 1 (V (some ⟨g,0,none⟩) 3 cap) 3 (sc [a,b,c]):=hown
  have hlt:=(hown'.lt g rfl).2
  have HCG:Hid (∀W,Below w2.heap.size w2 W→W.cell? ⟨g,0,none⟩=some (Qs (str a))∧W.cell? ⟨g,1,none⟩=some (Qs (str b))∧W.cell? ⟨g,2,none⟩=some (Qs (str c))):=fun W h =>
   ⟨by rw[h.cell (p:=⟨g,0,none⟩) hlt,hown'.cellAt 0 (by omega)];rfl,by rw[h.cell (p:=⟨g,1,none⟩) hlt,hown'.cellAt 1 (by omega)];rfl,by rw[h.cell (p:=⟨g,2,none⟩) hlt,hown'.cellAt 2 (by omega)];rfl⟩
  have hok:=HOK.out
  unfold okText at hok
  rw[hab]at hok
  simp only[Bool.and_eq_true,decide_eq_true_eq]at hok
  have H28:=fun W=>hid (digits_says b hok.2.1 W)
  have hcl:c.length≤100:=hok.2.2
  have HE:=hid (show ofText op t=if c=[63] then (op,a,digL b,[],[],false) else (op,a,digL b,(sst c c.length).2.1,(sst c c.length).2.2,true) by unfold ofText;rw[hab])
  clear hown hown' hlt hbg hok h3 hab HN
  rename_i r1 r2 r3 r4 r5
  clear r1 r2 r3 r4 r5
  go_upto_region 11 with fail
  go_cut [5] (fun s5 wx=>∃gr:Nat,s5=Qp (some ⟨gr,0,none⟩)∧Hid (w2.heap.size≤gr∧Below w2.heap.size w2 wx∧RB gr (op,a,digL b,[],[],false) wx))
  case first =>
   have hS:=(QB w2.heap.size w2).drew
   refine wp_region_held_drew (S:=Below w2.heap.size w2) (by kernel_rfl) hS (fun _=>?_)
   generalize w2.drew=W at *
   refine zt 0 (I J op) rfl ?_ ?_
   ·(intro W hSw;obtain ⟨y0,y1,y2⟩:=HCG.out W hSw;go_simp;try (with_reducible rfl))
   try simp only[Qu,sl2,sl0,sl1]
   refine zt 1 (V (some ⟨g,0,none⟩) 3 cap) rfl ?_ ?_
   ·(intro W hSw;obtain ⟨y0,y1,y2⟩:=HCG.out W hSw;go_simp;try (with_reducible rfl))
   try simp only[Qu,sl2,sl0,sl1]
   refine zt 2 (Qp (some ⟨g,0,none⟩)) rfl ?_ ?_
   ·(intro W hSw;obtain ⟨y0,y1,y2⟩:=HCG.out W hSw;go_simp;try (with_reducible rfl))
   try simp only[Qu,sl2,sl0,sl1]
   refine zt 3 (Qs (str a)) rfl ?_ ?_
   ·(intro W hSw;obtain ⟨y0,y1,y2⟩:=HCG.out W hSw;go_simp;try (with_reducible rfl))
   try simp only[Qu,sl2,sl0,sl1]
   refine zt 4 (V (some ⟨g,0,none⟩) 3 cap) rfl ?_ ?_
   ·(intro W hSw;obtain ⟨y0,y1,y2⟩:=HCG.out W hSw;go_simp;try (with_reducible rfl))
   try simp only[Qu,sl2,sl0,sl1]
   refine zt 5 (Qp (some ⟨g,1,none⟩)) rfl ?_ ?_
   ·(intro W hSw;obtain ⟨y0,y1,y2⟩:=HCG.out W hSw;go_simp;try (with_reducible rfl))
   try simp only[Qu,sl2,sl0,sl1]
   refine zt 6 (Qs (str b)) rfl ?_ ?_
   ·(intro W hSw;obtain ⟨y0,y1,y2⟩:=HCG.out W hSw;go_simp;try (with_reducible rfl))
   try simp only[Qu,sl2,sl0,sl1]
   refine zm [7,9] ?_
   refine zc rfl (fun K hK=>?_) ?_
   ·go_simp
    go_at_call 221
    (with_reducible refine (H28 _).out.mono ?_)
    rintro e W1 ⟨rfl,hb⟩
    replace hS:=hS.trans (hb.mono hS.size)
    try replace hR:=hR.call hb
    clear hb
    refine hK.out _ _ hS (fun _=>?_)
    clear hK K
    try simp only[Qu,sl2,sl0,sl1]
    refine zt 8 (.agg #[I J op,Qs (str a),I J (digL b),Qs ⟨#[]⟩,Qs ⟨#[]⟩,G false]) rfl ?_ ?_
    ·(intro W hSw;obtain ⟨y0,y1,y2⟩:=HCG.out W hSw;go_simp;try (with_reducible rfl))
    try simp only[Qu,sl2,sl0,sl1]
    refine zr 9 rfl (fun K hK=>?_)
    go_simp
    have hR:RB (W1).heap.size rwz ((W1).alloc (Qc #[I J 0,Qs ⟨#[]⟩,I J 0,Qs ⟨#[]⟩,Qs ⟨#[]⟩,G false] 172)):=RB.new W1
    have hge:=hS.size
    replace hS:=hS.alloc hge (Qc #[I J 0,Qs ⟨#[]⟩,I J 0,Qs ⟨#[]⟩,Qs ⟨#[]⟩,G false] 172)
    generalize (W1).alloc (Qc #[I J 0,Qs ⟨#[]⟩,I J 0,Qs ⟨#[]⟩,Qs ⟨#[]⟩,G false] 172)=W2 at *
    generalize (W1).heap.size=gr at *
    refine hK.out _ _ hS (fun _=>?_)
    clear hK K
    try simp only[Qu,sl2,sl0,sl1]
    refine zr 10 rfl (fun K hK=>?_)
    obtain ⟨x0,x1,x2,x3,x4,x5⟩:=hR.cells
    have xf:=hR.free
    go_simp
    clear x0 x1 x2 x3 x4 x5 xf
    replace hS:Below w2.heap.size w2 ((((((((((((W2).setCell ⟨gr,0,none⟩ (I J op))).setCell ⟨gr,1,none⟩ (Qs (str a)))).setCell ⟨gr,2,none⟩ (I J (digL b)))).setCell ⟨gr,3,none⟩ (Qs ⟨#[]⟩))).setCell ⟨gr,4,none⟩ (Qs ⟨#[]⟩))).setCell ⟨gr,5,none⟩ (G false)):=below_six hS hge _ _ _ _ _ _
    replace hR:RB gr (op,a,digL b,[],[],false) ((((((((((((W2).setCell ⟨gr,0,none⟩ (I J op))).setCell ⟨gr,1,none⟩ (Qs (str a)))).setCell ⟨gr,2,none⟩ (I J (digL b)))).setCell ⟨gr,3,none⟩ (Qs ⟨#[]⟩))).setCell ⟨gr,4,none⟩ (Qs ⟨#[]⟩))).setCell ⟨gr,5,none⟩ (G false)):=hR.store op a (digL b) [] [] false
    generalize ((((((((((((W2).setCell ⟨gr,0,none⟩ (I J op))).setCell ⟨gr,1,none⟩ (Qs (str a)))).setCell ⟨gr,2,none⟩ (I J (digL b)))).setCell ⟨gr,3,none⟩ (Qs ⟨#[]⟩))).setCell ⟨gr,4,none⟩ (Qs ⟨#[]⟩))).setCell ⟨gr,5,none⟩ (G false))=W3 at *
    refine hK.out _ _ hS (fun _=>?_)
    clear hK K
    try simp only[Qu,sl2,sl0,sl1]
    refine wpAnyH_done (by kernel_rfl) ?_ _
    (go_wp2_with fail)
    go_meet
    exact ⟨gr,rfl,hge,hS,hR⟩
   refine zc rfl (fun K hK=>?_) ?_
   ·go_simp
    have hR:RB (W).heap.size rwz ((W).alloc (Qc #[I J 0,Qs ⟨#[]⟩,I J 0,Qs ⟨#[]⟩,Qs ⟨#[]⟩,G false] 172)):=RB.new W
    have hge:=hS.size
    replace hS:=hS.alloc hge (Qc #[I J 0,Qs ⟨#[]⟩,I J 0,Qs ⟨#[]⟩,Qs ⟨#[]⟩,G false] 172)
    generalize (W).alloc (Qc #[I J 0,Qs ⟨#[]⟩,I J 0,Qs ⟨#[]⟩,Qs ⟨#[]⟩,G false] 172)=W1 at *
    generalize (W).heap.size=gr at *
    refine hK.out _ _ hS (fun _=>?_)
    clear hK K
    try simp only[Qu,sl2,sl0,sl1]
    refine zr 7 rfl (fun K hK=>?_)
    go_simp
    go_at_call 221
    (with_reducible refine (H28 _).out.mono ?_)
    rintro e W2 ⟨rfl,hb⟩
    replace hS:=hS.trans (hb.mono hS.size)
    try replace hR:=hR.call hb
    clear hb
    refine hK.out _ _ hS (fun _=>?_)
    clear hK K
    try simp only[Qu,sl2,sl0,sl1]
    refine zt 8 (.agg #[I J op,Qs (str a),I J (digL b),Qs ⟨#[]⟩,Qs ⟨#[]⟩,G false]) rfl ?_ ?_
    ·(intro W hSw;obtain ⟨y0,y1,y2⟩:=HCG.out W hSw;go_simp;try (with_reducible rfl))
    try simp only[Qu,sl2,sl0,sl1]
    refine zr 10 rfl (fun K hK=>?_)
    obtain ⟨x0,x1,x2,x3,x4,x5⟩:=hR.cells
    have xf:=hR.free
    go_simp
    clear x0 x1 x2 x3 x4 x5 xf
    replace hS:Below w2.heap.size w2 ((((((((((((W2).setCell ⟨gr,0,none⟩ (I J op))).setCell ⟨gr,1,none⟩ (Qs (str a)))).setCell ⟨gr,2,none⟩ (I J (digL b)))).setCell ⟨gr,3,none⟩ (Qs ⟨#[]⟩))).setCell ⟨gr,4,none⟩ (Qs ⟨#[]⟩))).setCell ⟨gr,5,none⟩ (G false)):=below_six hS hge _ _ _ _ _ _
    replace hR:RB gr (op,a,digL b,[],[],false) ((((((((((((W2).setCell ⟨gr,0,none⟩ (I J op))).setCell ⟨gr,1,none⟩ (Qs (str a)))).setCell ⟨gr,2,none⟩ (I J (digL b)))).setCell ⟨gr,3,none⟩ (Qs ⟨#[]⟩))).setCell ⟨gr,4,none⟩ (Qs ⟨#[]⟩))).setCell ⟨gr,5,none⟩ (G false)):=hR.store op a (digL b) [] [] false
    generalize ((((((((((((W2).setCell ⟨gr,0,none⟩ (I J op))).setCell ⟨gr,1,none⟩ (Qs (str a)))).setCell ⟨gr,2,none⟩ (I J (digL b)))).setCell ⟨gr,3,none⟩ (Qs ⟨#[]⟩))).setCell ⟨gr,4,none⟩ (Qs ⟨#[]⟩))).setCell ⟨gr,5,none⟩ (G false))=W3 at *
    refine hK.out _ _ hS (fun _=>?_)
    clear hK K
    try simp only[Qu,sl2,sl0,sl1]
    refine wpAnyH_done (by kernel_rfl) ?_ _
    (go_wp2_with fail)
    go_meet
    exact ⟨gr,rfl,hge,hS,hR⟩
   exact zn
  obtain ⟨gr,rfl,HG⟩:=hcut
  have HBw:=hid (HB2.out.trans (HG.out.2.1.mono HB2.out.size))
  have HRr:=hid (HR2.out.call HG.out.2.1)
  have hne:=hid (show gr≠w.heap.size by have:=HR2.out.lt;have:=HG.out.1;omega)
  obtain ⟨y0,y1,y2⟩:=HCG.out _ HG.out.2.1
  clear H28
  obtain ⟨s,hs⟩:∃s,s=str c:=⟨_,rfl⟩
  rw[←hs]at y2
  have HSC:=hid hs
  have hssz:s.size=c.length:=by rw[hs,str_size]
  clear hs
  by_cases hc:c=[63]
  ·have hq:(s.toList==[63])=true:=by rw[HSC.out,str_list,hc];rfl
   have HE2:=hid (HE.out.trans (if_pos hc))
   obtain ⟨x0,x1,x2,x3,x4,x5⟩:=HG.out.2.2.cells
   obtain ⟨z0,z1,z2,z3,z4,z5⟩:=HRr.out.cells
   have xf:=HG.out.2.2.free
   have zf:=HRr.out.free
   clear hc hssz
   go_wp2
   clear x0 x1 x2 x3 x4 x5 xf z0 z1 z2 z3 z4 z5 zf y0 y1 y2
   have hR3:=HRr.out.store op a (digL b) [] [] false
   exact bodyPost_ret (v:=rwV (op,a,digL b,[],[],false)) (res9 _ _ _ _ hR3 rfl) rfl ⟨by rw[HOF.out,HE2.out],below_six HBw.out (Ql _) _ _ _ _ _ _⟩
  have hq:(s.toList==[63])=false:=by rw[HSC.out,str_list,beq_eq_false_iff_ne];exact hc
  have HE2:=hid (HE.out.trans (if_neg hc))
  obtain ⟨x0,x1,x2,x3,x4,x5⟩:=HG.out.2.2.cells
  have xf:=HG.out.2.2.free
  clear hc
  go_wp2
  clear x0 x1 x2 x3 x4 x5 xf y0 y1 y2 hq
  have HRN:=hid (HG.out.2.2.set (k:=5) (r':=(op,a,digL b,[],[],true)) (v:=G true) rfl)
  have HBN:=hid (HG.out.2.1.setCell (p:=⟨gr,5,none⟩) HG.out.1 (G true))
  generalize wc.setCell ⟨gr,5,none⟩ (G true)=wd at *
  have HBwd:=hid (HB2.out.trans (HBN.out.mono HB2.out.size))
  have HRrd:=hid (HR2.out.call HBN.out)
  clear HBw HRr
  go_loopw [6,7] (fun vb vi wr=>∃n:Nat,Hid (n≤c.length)∧vi=I J n∧vb=G (sst c n).1∧Hid (Below w2.heap.size w2 wr∧RB gr (op,a,digL b,(sst c n).2.1,(sst c n).2.2,true) wr)) (fun _ vi _=>101-(intOf vi).toNat)
  case atStart=>exact ⟨0,Nat.zero_le _,rfl,rfl,HBN.out,HRN.out⟩
  obtain ⟨n,hn,rfl,rfl,HRR⟩:=hrel
  obtain ⟨y0,y1,y2⟩:=HCG.out _ HRR.out.1
  rw[←HSC.out]at y2
  by_cases hnl:n<c.length
  ·have hn1:=hid (show n+1≤c.length from hnl)
   obtain ⟨ch,hch⟩:∃ch,ch=c[n]'hnl:=⟨_,rfl⟩
   have hget:∀h:n<s.size,(s[n]'h)=ch:=fun h=>by
    have e:=HSC.out
    subst e
    exact (str_get c n hnl _).trans hch.symm
   have HSU:=hid (sst_succ c n hnl)
   rw[←hch]at HSU
   have hchH:=hid hch
   have HLE:=hid (sst_len c n)
   obtain ⟨bb,tk,lv,hpp⟩:∃bb tk lv,sst c n=(bb,tk,lv):=⟨_,_,_,rfl⟩
   rw[hpp]at HRR HLE ⊢
   have HPP:=hid hpp
   dsimp only at HRR HLE ⊢
   clear hpp hch
   by_cases hc62:ch=62
   ·have hcn:(ch.toNat:Int)=62:=by rw[hc62];rfl
    have HST:=hid (show sst c (n+1)=(true,tk,lv) by rw[HSU.out,HPP.out,hc62];rfl)
    clear hc62
    go_wp2
    go_roundw
    case rel=>exact ⟨n+1,hn1.out,by go_num,by rw[HST.out],HRR.out.1,by rw[HST.out];exact HRR.out.2⟩
    case measure=>(first|(simp[intOf];done)|(simp[intOf];omega))
   have hcn:((ch.toNat:Int)==62)=false:=by
    rw[beq_eq_false_iff_ne]
    intro e
    exact hc62 (UInt8.toNat_inj.1 (by have:(62:UInt8).toNat=62:=rfl;omega))
   have hc62H:=hid hc62
   clear hc62
   cases bb
   ·have HST:=hid (show sst c (n+1)=(false,tk++[ch],lv) by rw[HSU.out,HPP.out];unfold stepS;simp[hc62H.out])
    have hadd:=fun W=>run_string_add_sum (P:=QP) W (str tk) (s.extract n (n+1)) (by rw[str_size,ByteArray.size_extract];have:=HLE.out;omega)
    have hsn:str tk++s.extract n (n+1)=str (tk++[ch]):=by rw[HSC.out,str_snoc tk c n hnl,hchH.out]
    rw[hsn]at hadd
    obtain ⟨ys,hys⟩:∃ys,ys=str (tk++[ch]):=⟨_,rfl⟩
    rw[←hys]at hadd
    have hysH:=hid hys
    clear hsn hys
    go_wp2_with fail
    have hR:=HRR.out.2.drew
    have hS:=HRR.out.1.drew
    have hge:=HG.out.1
    have hw1:wrap64 ((n:Int)+1)=(n:Int)+1:=by unfold wrap64;omega
    have hb1:(0:Int)≤(n:Int)+1∧(n:Int)+1≤(c.length:Int):=by omega
    have hb2:(n:Int)≤(n:Int)+1:=by omega
    have hw2:IntKind.i64.wrap ((n:Int)+1)=(n:Int)+1:=by rw[IntKind.wrap_i64];unfold wrap64 at hw1;exact hw1
    refine wp_region_held_drew (S:=Below w2.heap.size w2) (by kernel_rfl) hS (fun _=>?_)
    clear y0 y1 y2
    generalize wr.drew=W at *
    refine zt 0 (Qp (some ⟨gr,3,none⟩)) rfl ?_ ?_
    ·(intro W hSw;obtain ⟨y0,y1,y2⟩:=HCG.out W hSw;rw[←HSC.out]at y2;go_simp;try (with_reducible rfl))
    try simp only[Qu,sl2,sl0,sl1]
    refine zt 2 (V (some ⟨g,0,none⟩) 3 cap) rfl ?_ ?_
    ·(intro W hSw;obtain ⟨y0,y1,y2⟩:=HCG.out W hSw;rw[←HSC.out]at y2;go_simp;try (with_reducible rfl))
    try simp only[Qu,sl2,sl0,sl1]
    refine zt 3 (Qp (some ⟨g,2,none⟩)) rfl ?_ ?_
    ·(intro W hSw;obtain ⟨y0,y1,y2⟩:=HCG.out W hSw;rw[←HSC.out]at y2;go_simp;try (with_reducible rfl))
    try simp only[Qu,sl2,sl0,sl1]
    refine zt 4 (Qs s) rfl ?_ ?_
    ·(intro W hSw;obtain ⟨y0,y1,y2⟩:=HCG.out W hSw;rw[←HSC.out]at y2;go_simp;try (with_reducible rfl))
    try simp only[Qu,sl2,sl0,sl1]
    refine zt 5 (I J (n:Int)) rfl ?_ ?_
    ·(intro W hSw;obtain ⟨y0,y1,y2⟩:=HCG.out W hSw;rw[←HSC.out]at y2;go_simp;try (with_reducible rfl))
    try simp only[Qu,sl2,sl0,sl1]
    refine zt 6 (I J (n:Int)) rfl ?_ ?_
    ·(intro W hSw;obtain ⟨y0,y1,y2⟩:=HCG.out W hSw;rw[←HSC.out]at y2;go_simp;try (with_reducible rfl))
    try simp only[Qu,sl2,sl0,sl1]
    refine zt 7 (I J ((n:Int)+1)) rfl ?_ ?_
    ·(intro W hSw;obtain ⟨y0,y1,y2⟩:=HCG.out W hSw;rw[←HSC.out]at y2;go_simp;try (with_reducible rfl))
    try simp only[Qu,sl2,sl0,sl1]
    refine zt 8 (Qs (s.extract n (n+1))) rfl ?_ ?_
    ·(intro W hSw;obtain ⟨y0,y1,y2⟩:=HCG.out W hSw;rw[←HSC.out]at y2;go_simp;try (with_reducible rfl))
    try simp only[Qu,sl2,sl0,sl1]
    refine zr 1 rfl (fun K hK=>?_)
    obtain ⟨x0,x1,x2,x3,x4,x5⟩:=hR.cells
    go_simp
    clear x0 x1 x2 x3 x4 x5
    refine hK.out _ _ hS (fun _=>?_)
    clear hK K
    try simp only[Qu,sl2,sl0,sl1]
    refine zt 9 (Qs ys) rfl ?_ ?_
    ·(intro W hSw;obtain ⟨y0,y1,y2⟩:=HCG.out W hSw;rw[←HSC.out]at y2;go_simp;try (with_reducible rfl))
    try simp only[Qu,sl2,sl0,sl1]
    refine zt 10 (Qp (some ⟨gr,3,none⟩)) rfl ?_ ?_
    ·(intro W hSw;obtain ⟨y0,y1,y2⟩:=HCG.out W hSw;rw[←HSC.out]at y2;go_simp;try (with_reducible rfl))
    try simp only[Qu,sl2,sl0,sl1]
    refine zr 11 rfl (fun K hK=>?_)
    obtain ⟨x0,x1,x2,x3,x4,x5⟩:=hR.cells
    have xf:=hR.free
    go_simp
    clear x0 x1 x2 x3 x4 x5 xf
    replace hS:Below w2.heap.size w2 ((W).setCell ⟨gr,3,none⟩ (Qs ys)):=hS.setCell (p:=⟨gr,3,none⟩) hge _
    replace hR:RB gr (op,a,digL b,tk++[ch],lv,true) ((W).setCell ⟨gr,3,none⟩ (Qs ys)):=hR.set (by rw[hysH.out];rfl)
    generalize (W).setCell ⟨gr,3,none⟩ (Qs ys)=W1 at *
    refine hK.out _ _ hS (fun _=>?_)
    clear hK K
    try simp only[Qu,sl2,sl0,sl1]
    refine wpAnyH_done (by kernel_rfl) ?_ _
    (go_wp2_with fail)
    go_roundw
    case rel=>exact ⟨n+1,hn1.out,by go_num,by rw[HST.out],hS,by rw[HST.out];exact hR⟩
    case measure=>(first|(simp[intOf];done)|(simp[intOf];omega))
   have HST:=hid (show sst c (n+1)=(true,tk,lv++[ch]) by rw[HSU.out,HPP.out];unfold stepS;simp[hc62H.out])
   have hadd:=fun W=>run_string_add_sum (P:=QP) W (str lv) (s.extract n (n+1)) (by rw[str_size,ByteArray.size_extract];have:=HLE.out;omega)
   have hsn:str lv++s.extract n (n+1)=str (lv++[ch]):=by rw[HSC.out,str_snoc lv c n hnl,hchH.out]
   rw[hsn]at hadd
   obtain ⟨ys,hys⟩:∃ys,ys=str (lv++[ch]):=⟨_,rfl⟩
   rw[←hys]at hadd
   have hysH:=hid hys
   clear hsn hys
   go_wp2_with fail
   have hR:=HRR.out.2.drew
   have hS:=HRR.out.1.drew
   have hge:=HG.out.1
   have hw1:wrap64 ((n:Int)+1)=(n:Int)+1:=by unfold wrap64;omega
   have hb1:(0:Int)≤(n:Int)+1∧(n:Int)+1≤(c.length:Int):=by omega
   have hb2:(n:Int)≤(n:Int)+1:=by omega
   have hw2:IntKind.i64.wrap ((n:Int)+1)=(n:Int)+1:=by rw[IntKind.wrap_i64];unfold wrap64 at hw1;exact hw1
   refine wp_region_held_drew (S:=Below w2.heap.size w2) (by kernel_rfl) hS (fun _=>?_)
   clear y0 y1 y2
   generalize wr.drew=W at *
   refine zt 0 (Qp (some ⟨gr,4,none⟩)) rfl ?_ ?_
   ·(intro W hSw;obtain ⟨y0,y1,y2⟩:=HCG.out W hSw;rw[←HSC.out]at y2;go_simp;try (with_reducible rfl))
   try simp only[Qu,sl2,sl0,sl1]
   refine zt 2 (V (some ⟨g,0,none⟩) 3 cap) rfl ?_ ?_
   ·(intro W hSw;obtain ⟨y0,y1,y2⟩:=HCG.out W hSw;rw[←HSC.out]at y2;go_simp;try (with_reducible rfl))
   try simp only[Qu,sl2,sl0,sl1]
   refine zt 3 (Qp (some ⟨g,2,none⟩)) rfl ?_ ?_
   ·(intro W hSw;obtain ⟨y0,y1,y2⟩:=HCG.out W hSw;rw[←HSC.out]at y2;go_simp;try (with_reducible rfl))
   try simp only[Qu,sl2,sl0,sl1]
   refine zt 4 (Qs s) rfl ?_ ?_
   ·(intro W hSw;obtain ⟨y0,y1,y2⟩:=HCG.out W hSw;rw[←HSC.out]at y2;go_simp;try (with_reducible rfl))
   try simp only[Qu,sl2,sl0,sl1]
   refine zt 5 (I J (n:Int)) rfl ?_ ?_
   ·(intro W hSw;obtain ⟨y0,y1,y2⟩:=HCG.out W hSw;rw[←HSC.out]at y2;go_simp;try (with_reducible rfl))
   try simp only[Qu,sl2,sl0,sl1]
   refine zt 6 (I J (n:Int)) rfl ?_ ?_
   ·(intro W hSw;obtain ⟨y0,y1,y2⟩:=HCG.out W hSw;rw[←HSC.out]at y2;go_simp;try (with_reducible rfl))
   try simp only[Qu,sl2,sl0,sl1]
   refine zt 7 (I J ((n:Int)+1)) rfl ?_ ?_
   ·(intro W hSw;obtain ⟨y0,y1,y2⟩:=HCG.out W hSw;rw[←HSC.out]at y2;go_simp;try (with_reducible rfl))
   try simp only[Qu,sl2,sl0,sl1]
   refine zt 8 (Qs (s.extract n (n+1))) rfl ?_ ?_
   ·(intro W hSw;obtain ⟨y0,y1,y2⟩:=HCG.out W hSw;rw[←HSC.out]at y2;go_simp;try (with_reducible rfl))
   try simp only[Qu,sl2,sl0,sl1]
   refine zr 1 rfl (fun K hK=>?_)
   obtain ⟨x0,x1,x2,x3,x4,x5⟩:=hR.cells
   go_simp
   clear x0 x1 x2 x3 x4 x5
   refine hK.out _ _ hS (fun _=>?_)
   clear hK K
   try simp only[Qu,sl2,sl0,sl1]
   refine zt 9 (Qs ys) rfl ?_ ?_
   ·(intro W hSw;obtain ⟨y0,y1,y2⟩:=HCG.out W hSw;rw[←HSC.out]at y2;go_simp;try (with_reducible rfl))
   try simp only[Qu,sl2,sl0,sl1]
   refine zt 10 (Qp (some ⟨gr,4,none⟩)) rfl ?_ ?_
   ·(intro W hSw;obtain ⟨y0,y1,y2⟩:=HCG.out W hSw;rw[←HSC.out]at y2;go_simp;try (with_reducible rfl))
   try simp only[Qu,sl2,sl0,sl1]
   refine zr 11 rfl (fun K hK=>?_)
   obtain ⟨x0,x1,x2,x3,x4,x5⟩:=hR.cells
   have xf:=hR.free
   go_simp
   clear x0 x1 x2 x3 x4 x5 xf
   replace hS:Below w2.heap.size w2 ((W).setCell ⟨gr,4,none⟩ (Qs ys)):=hS.setCell (p:=⟨gr,4,none⟩) hge _
   replace hR:RB gr (op,a,digL b,tk,lv++[ch],true) ((W).setCell ⟨gr,4,none⟩ (Qs ys)):=hR.set (by rw[hysH.out];rfl)
   generalize (W).setCell ⟨gr,4,none⟩ (Qs ys)=W1 at *
   refine hK.out _ _ hS (fun _=>?_)
   clear hK K
   try simp only[Qu,sl2,sl0,sl1]
   refine wpAnyH_done (by kernel_rfl) ?_ _
   (go_wp2_with fail)
   go_roundw
   case rel=>exact ⟨n+1,hn1.out,by go_num,by rw[HST.out],hS,by rw[HST.out];exact hR⟩
   case measure=>(first|(simp[intOf];done)|(simp[intOf];omega))
  obtain rfl:n=c.length:=by have:=hn.out;omega
  obtain ⟨x0,x1,x2,x3,x4,x5⟩:=HRR.out.2.cells
  have HRq:=hid (HR2.out.call HRR.out.1)
  obtain ⟨z0,z1,z2,z3,z4,z5⟩:=HRq.out.cells
  have xf:=HRR.out.2.free
  have zf:=HRq.out.free
  go_wp2
  clear x0 x1 x2 x3 x4 x5 xf z0 z1 z2 z3 z4 z5 zf y0 y1 y2
  have hR3:=HRq.out.store op a (digL b) (sst c c.length).2.1 (sst c c.length).2.2 true
  exact bodyPost_ret (v:=rwV (op,a,digL b,(sst c c.length).2.1,(sst c c.length).2.2,true)) (res9 _ _ _ _ hR3 rfl) rfl ⟨by rw[HOF.out,HE2.out],below_six (HB2.out.trans (HRR.out.1.mono HB2.out.size)) (Ql _) _ _ _ _ _ _⟩
 have HE:=hid (show ofText op t=rw0 by
  unfold ofText
  split
  ·rename_i a b c h
   rw[h]at h3
   exact absurd rfl h3
  rfl)
 rcases hown.2 with ⟨rfl,h⟩|⟨g,cap,cur,rfl,hbg,_,_,_,_,_⟩
 ·clear hown h3 h
  go_wp2_with (go_at_call 220;refine (HN _).out.mono ?_;rintro e w3 ⟨rfl,hb⟩;have HB3:=hid hb;have hR:=HR2.out.call hb;obtain ⟨x0,x1,x2,x3,x4,x5⟩:=hR.cells;have xf:=hR.free)
  have hR2:=hR.store (-1) [] 0 [] [] false
  obtain ⟨z0,z1,z2,z3,z4,z5⟩:=hR2.cells
  clear x0 x1 x2 x3 x4 x5 xf
  have hbe:=below_six (HB2.out.trans (HB3.out.mono HB2.out.size)) (Ql _) (I J (-1)) (Qs ⟨#[]⟩) (I J 0) (Qs ⟨#[]⟩) (Qs ⟨#[]⟩) (G false)
  refine bodyPost_ret (v:=rwV rw0) ?_ rfl ⟨by rw[HOF.out,HE.out],hbe⟩
  exact res9 _ _ _ _ hR2 rfl
 obtain ⟨n,hn⟩:∃n,n=(wordsL t).length:=⟨_,rfl⟩
 rw[←hn]at h3 ⊢
 have hn3:((n:Int)!=3)=true:=by simp;omega
 clear hown hn h3
 go_wp2_with (go_at_call 220;refine (HN _).out.mono ?_;rintro e w3 ⟨rfl,hb⟩;have HB3:=hid hb;have hR:=HR2.out.call hb;obtain ⟨x0,x1,x2,x3,x4,x5⟩:=hR.cells;have xf:=hR.free)
 have hR2:=hR.store (-1) [] 0 [] [] false
 obtain ⟨z0,z1,z2,z3,z4,z5⟩:=hR2.cells
 clear x0 x1 x2 x3 x4 x5 xf
 have hbe:=below_six (HB2.out.trans (HB3.out.mono HB2.out.size)) (Ql _) (I J (-1)) (Qs ⟨#[]⟩) (I J 0) (Qs ⟨#[]⟩) (Qs ⟨#[]⟩) (G false)
 refine bodyPost_ret (v:=rwV rw0) ?_ rfl ⟨by rw[HOF.out,HE.out],hbe⟩
 exact res9 _ _ _ _ hR2 rfl
def tl (f:Nat→Value):Nat→Nat→List Value
 |0,_=>[]
 |n+1,k=>f k::tl f n (k+1)
theorem tl_of:∀(n m:Nat) (l:List Value),l.length=m+n→l=l.take m++tl (fun k=>l.getD k undef) n m
 |0,m,l,h=>by rw[List.take_of_length_le (by omega)];simp[tl]
 |n+1,m,l,h=>by
  have e:=tl_of n (m+1) l (by omega)
  have hm:m<l.length:=by omega
  have e2:l.take (m+1)=l.take m++[l.getD m undef]:=by rw[List.take_succ_eq_append_getElem hm,List.getD_eq_getElem?_getD,List.getElem?_eq_getElem hm];rfl
  rw[e2,List.append_assoc]at e
  exact e
def okR (K:Int) (ia ib vb ra lv l3 l8 q0 q1 q16 n32 a0 a1 a2 b0 op4 ot ne0 an a8:Bool):Bool :=
 if K=0∨K=11∨K=19 then q0 else if K=1 then q0&&((a0&&b0)||(a1&&vb)||(a2&&ib))&&(op4||!ot)&&(ot||ne0) else if K=2∨K=4∨K=7∨K=8∨K=9∨K=17∨K=18∨K=21 then ia&&q0 else if K=3 then ia&&l3 else if K=5∨K=10∨K=20∨K=22 then ia&&ib&&q0 else if K=26 then ia&&ib&&q1&&l8 else if K=6 then lv else if K=12∨K=14 then n32&&q0 else if K=13∨K=15 then q0 else if K=23 then q0 else if K=16 then ra&&q0 else if K=24 then q16&&l8 else if K=25 then an&&a8&&q0 else false
def naR (K a:Int):Int:=if K=1∨K=2∨K=4∨K=7∨K=8∨K=9∨K=17∨K=18∨K=21∨K=3∨K=5∨K=10∨K=20∨K=22∨K=26∨K=16∨K=25 then a else 0
def nbR (K b:Int):Int:=if K=1∨K=5∨K=10∨K=20∨K=22∨K=26 then b else 0
def nnR (K:Int) (n:Nat):Nat:=if K=12∨K=14∨K=13∨K=15∨K=23 then n else 0
def nhR (K:Int) (h:Nat):Nat:=if K=23 then h else 0
def oneR (K op a b:Int) (n h:Nat) (l:List Int) (nl:Nat) (ot:Bool) (nb ne:Nat):Bool :=
 (K==1||!(decide (0<nb)||decide (0<ne)||ot))&&okR K (idxR a) (idxR b) (valB b) (refB a) (l.all valB) (l.all (inR 4294967296)) (l.all (inR 256)) ((nl:Int)==0) ((nl:Int)==1) ((nl:Int)==16) (decide ((n:Int)<4294967296)) (a==0) (a==1) (a==2) (b==0) (op==4) ot ((ne:Int)==0) (decide (0≤a)) (decide (a<256))&&(a==naR K a)&&(b==nbR K b)&&((n:Int)==(nnR K n:Int))&&((h:Int)==(nhR K h:Int))
theorem three (a:Int):((a==0)=true∧(a==1)=false∧(a==2)=false)∨((a==0)=false∧(a==1)=true∧(a==2)=false)∨((a==0)=false∧(a==1)=false∧(a==2)=true)∨((a==0)=false∧(a==1)=false∧(a==2)=false):=by
 by_cases h0:a=0
 ·subst h0;simp
 by_cases h1:a=1
 ·subst h1;simp
 by_cases h2:a=2
 ·subst h2;simp
 simp[h0,h1,h2]
theorem one_L (K op a b:Int) (ok:Bool) (na nb':Int) (nn nh:Nat) (n h:Nat) (l:List Int) (nl:Nat) (hnl:nl=l.length) (pl pb pe:Option Addr) (cl nb cb ne ce:Nat) (ot:Bool) (B:Nat) (w:World) (hB:B≤w.heap.size) (hl:LI B w (V pl nl cl) l)
  (c0:Int) (v1 v3 v4:List UInt8) (v5:Bool) (hc0:decide (c0<0)=false) (hK:((K=0∨K=11∨K=19)∧(((nl:Int)==0))=ok∧(0:Int)=na∧(0:Int)=nb'∧(0:Nat)=nn∧(0:Nat)=nh)∨((K=1)∧(((nl:Int)==0)&&(((a==0)&&(b==0))||((a==1)&&valB b)||((a==2)&&idxR b))&&((op==4)||!ot)&&(ot||((ne:Int)==0)))=ok∧a=na∧b=nb'∧(0:Nat)=nn∧(0:Nat)=nh)∨((K=2∨K=4∨K=7∨K=8∨K=9∨K=17∨K=18∨K=21)∧(idxR a&&((nl:Int)==0))=ok∧a=na∧(0:Int)=nb'∧(0:Nat)=nn∧(0:Nat)=nh)∨((K=3)∧(idxR a&&l.all (inR 4294967296))=ok∧a=na∧(0:Int)=nb'∧(0:Nat)=nn∧(0:Nat)=nh)∨((K=5∨K=10∨K=20∨K=22)∧(idxR a&&idxR b&&((nl:Int)==0))=ok∧a=na∧b=nb'∧(0:Nat)=nn∧(0:Nat)=nh)∨((K=26)∧(idxR a&&idxR b&&((nl:Int)==1)&&l.all (inR 256))=ok∧a=na∧b=nb'∧(0:Nat)=nn∧(0:Nat)=nh)∨((K=6)∧(l.all valB)=ok∧(0:Int)=na∧(0:Int)=nb'∧(0:Nat)=nn∧(0:Nat)=nh)∨((K=12∨K=14)∧(decide ((n:Int)<4294967296)&&((nl:Int)==0))=ok∧(0:Int)=na∧(0:Int)=nb'∧n=nn∧(0:Nat)=nh)∨((K=13∨K=15)∧(((nl:Int)==0))=ok∧(0:Int)=na∧(0:Int)=nb'∧n=nn∧(0:Nat)=nh)∨((K=23)∧(((nl:Int)==0))=ok∧(0:Int)=na∧(0:Int)=nb'∧n=nn∧h=nh)∨((K=16)∧(refB a&&((nl:Int)==0))=ok∧a=na∧(0:Int)=nb'∧(0:Nat)=nn∧(0:Nat)=nh)∨((K=24)∧(((nl:Int)==16)&&l.all (inR 256))=ok∧(0:Int)=na∧(0:Int)=nb'∧(0:Nat)=nn∧(0:Nat)=nh)∨((K=25)∧(decide (0≤a)&&decide (a<256)&&((nl:Int)==0))=ok∧a=na∧(0:Int)=nb'∧(0:Nat)=nn∧(0:Nat)=nh)) (hk:∀W,Calls QP 153 #[I J op] W fun e w'=>e=Qr (.agg #[I J c0,Qs (str v1),I J K,Qs (str v3),Qs (str v4),G v5])∧Below W.heap.size W w') :
  Calls QP 209 #[.agg #[I J op,I J a,I J b,I O n,I O h,V pl nl cl,V pb nb cb,V pe ne ce,G ot]] w fun e w'=>e=Qr (G ((K==1||!(decide (0<nb)||decide (0<ne)||ot))&&ok&&(a==na)&&(b==nb')&&((n:Int)==(nn:Int))&&((h:Int)==(nh:Int))))∧Below w.heap.size w w':=by
 have HK:=fun W=>hid (hk W)
 have HIA:=fun W=>hid (RIndex_says a W)
 have HIB:=fun W=>hid (RIndex_says b W)
 have HVB:=fun W=>hid (RVal_says b W)
 have HRA:=fun W=>hid (RRef_says a W)
 have HLV:=fun W (hW:Below B w W)=>hid (RVals_says l (V pl nl cl) B W (hl.below hW))
 have H3:=fun W (hW:Below B w W)=>hid (RIns_says 4294967296 l (V pl nl cl) B W (hl.below hW))
 have H8:=fun W (hW:Below B w W)=>hid (RIns_says 256 l (V pl nl cl) B W (hl.below hW))
 generalize idxR a=ia at *
 generalize idxR b=ib at *
 generalize valB b=vb at *
 generalize refB a=ra at *
 generalize l.all valB=lv at *
 generalize l.all (inR 4294967296)=l3 at *
 generalize l.all (inR 256)=l8 at *
 have HBX:=hid ((QB w.heap.size w).alloc (Ql _) (Qc #[I J op,I J a,I J b,I O n,I O h,V pl nl cl,V pb nb cb,V pe ne ce,G ot] 39))
 have HX:=hid (CA.new w #[I J op,I J a,I J b,I O n,I O h,V pl nl cl,V pb nb cb,V pe ne ce,G ot] 39)
 clear hk hl hnl
 have h3:=three a
 obtain ⟨a0,d_a0⟩:∃x,(a==0)=x:=⟨_,rfl⟩
 obtain ⟨a1,d_a1⟩:∃x,(a==1)=x:=⟨_,rfl⟩
 obtain ⟨a2,d_a2⟩:∃x,(a==2)=x:=⟨_,rfl⟩
 rw[d_a0,d_a1,d_a2]at h3 hK
 obtain ⟨q0,d_q0⟩:∃x,((nl:Int)==0)=x:=⟨_,rfl⟩
 obtain ⟨q1,d_q1⟩:∃x,((nl:Int)==1)=x:=⟨_,rfl⟩
 obtain ⟨q16,d_q16⟩:∃x,((nl:Int)==16)=x:=⟨_,rfl⟩
 obtain ⟨n32,d_n32⟩:∃x,decide ((n:Int)<4294967296)=x:=⟨_,rfl⟩
 obtain ⟨b0,d_b0⟩:∃x,(b==0)=x:=⟨_,rfl⟩
 obtain ⟨op4,d_op4⟩:∃x,(op==4)=x:=⟨_,rfl⟩
 obtain ⟨ne0,d_ne0⟩:∃x,((ne:Int)==0)=x:=⟨_,rfl⟩
 obtain ⟨an,d_an⟩:∃x,decide (0≤a)=x:=⟨_,rfl⟩
 obtain ⟨a8,d_a8⟩:∃x,decide (a<256)=x:=⟨_,rfl⟩
 rw[d_q0,d_q1,d_q16,d_n32,d_b0,d_op4,d_ne0,d_an,d_a8]at hK
 have HKS:=hid hK
 clear hK
 obtain ⟨bb1,dp1⟩:∃x,decide (0<nb)=x:=⟨_,rfl⟩
 obtain ⟨bb2,dp2⟩:∃x,decide (0<ne)=x:=⟨_,rfl⟩
 obtain ⟨k1,dk1⟩:∃x,(K==1)=x:=⟨_,rfl⟩
 rw[dp1,dp2,dk1]
 have HK1:=hid dk1
 have dk2:(K !=1)=!k1:=by rw[←dk1];rfl
 have H_3:=hid h3
 have D_a0:=hid d_a0
 have D_a1:=hid d_a1
 have D_a2:=hid d_a2
 have D_q0:=hid d_q0
 have D_q1:=hid d_q1
 have D_q16:=hid d_q16
 have D_n32:=hid d_n32
 have D_b0:=hid d_b0
 have D_op4:=hid d_op4
 have D_ne0:=hid d_ne0
 have D_an:=hid d_an
 have D_a8:=hid d_a8
 clear h3 dk1 d_a0 d_a1 d_a2 d_q0 d_q1 d_q16 d_n32 d_b0 d_op4 d_ne0 d_an d_a8
 have HP12:=hid (And.intro dp1 (And.intro dp2 dk2))
 clear dp1 dp2 dk2
 go_enter Tryz.func209,Tryz.ntmps209
 go_upto_region 2 with (go_at_call 153;(with_reducible refine (HK _).out.mono ?_);rintro e w1 ⟨rfl,hb1⟩;have HB1:=Qd HBX hb1;have HX1:=Qe HX hb1;clear hb1)
 have HX2:=hid (HX1.out.alloc (Qc #[I J c0,Qs (str v1),I J K,Qs (str v3),Qs (str v4),G v5] 172))
 have HR2:=hid (CA.new w1 #[I J c0,Qs (str v1),I J K,Qs (str v3),Qs (str v4),G v5] 172)
 have HB2:=hid (HB1.out.alloc HB1.out.size (Qc #[I J c0,Qs (str v1),I J K,Qs (str v3),Qs (str v4),G v5] 172))
 generalize w1.alloc (Qc #[I J c0,Qs (str v1),I J K,Qs (str v3),Qs (str v4),G v5] 172)=W2 at *
 obtain ⟨gr,hgr⟩:∃g,g=w1.heap.size:=⟨_,rfl⟩
 rw[←hgr]at HR2 ⊢
 clear hgr HX1 HB1 HX HBX
 obtain ⟨y0,y1,y2,y3,y4,y5,y6,y7,y8⟩:=ca9 HX2.out
 have r0:=HR2.out.at (k:=0) (v:=I J c0) rfl
 have r2:=HR2.out.at (k:=2) (v:=I J K) rfl
 go_upto_region 4 with fail
 obtain ⟨X,hX⟩:∃x,x=(!k1&&(bb1||bb2||ot)):=⟨_,rfl⟩
 have HX0:=hid hX
 clear hX
 go_cut [36] from 18 to 36 (fun c wx=>c=G X∧W2=wx)
 case first=>as_aux_lemma =>
  obtain ⟨dp1,dp2,dk2⟩:=HP12.out
  rcases (show k1=true∨(k1=false∧bb1=true)∨(k1=false∧bb1=false∧bb2=true)∨(k1=false∧bb1=false∧bb2=false) by cases k1<;>cases bb1<;>cases bb2<;>simp) with rfl|⟨rfl,rfl⟩|⟨rfl,rfl,rfl⟩|⟨rfl,rfl,rfl⟩
  all_goals simp only[Bool.not_false,Bool.not_true]at dk2
  all_goals
   go_wp2
   go_meet
   exact ⟨by rw[HX0.out];simp,rfl⟩
 obtain ⟨rfl,rfl⟩:=hcut
 cases X
 case true =>
  go_wp2
  go_ret
  refine ⟨?_,HB2.out⟩
  have h:=HX0.out
  have e:(k1||!(bb1||bb2||ot))=false:=by revert h;cases k1<;>cases bb1<;>cases bb2<;>cases ot<;>simp
  rw[e]
  simp only[Bool.false_and]
  rfl
 go_upto_region 12 with (first
  |(go_at_call 52;(with_reducible refine (HIA _).out.mono ?_);rintro e w3 ⟨rfl,rfl⟩)
  |(go_at_call 52;(with_reducible refine (HIB _).out.mono ?_);rintro e w3 ⟨rfl,rfl⟩)
  |(go_at_call 56;(with_reducible refine (HVB _).out.mono ?_);rintro e w3 ⟨rfl,rfl⟩)
  |(go_at_call 154;(with_reducible refine (HRA _).out.mono ?_);rintro e w3 ⟨rfl,rfl⟩)
  |(go_at_call 50;(with_reducible refine (HLV _ (HB2.out.mono hB)).out.mono ?_);rintro e w3 ⟨rfl,rfl⟩))
 have HP3:=hid (CA.new W2 #[I J op,I J 0,I J 0,I O 0,I O 0,V none 0 0,V none 0 0,V none 0 0,G false] 39)
 have HK3:=hid ((QB W2.heap.size W2).alloc (Ql _) (Qc #[I J op,I J 0,I J 0,I O 0,I O 0,V none 0 0,V none 0 0,V none 0 0,G false] 39))
 have HX3:=hid (HX2.out.below HK3.out HX2.out.lt)
 have HR3:=hid (HR2.out.below HK3.out HR2.out.lt)
 have HB3:=hid (HB2.out.alloc HB2.out.size (Qc #[I J op,I J 0,I J 0,I O 0,I O 0,V none 0 0,V none 0 0,V none 0 0,G false] 39))
 have HG:=hid HX2.out.lt
 clear y0 y1 y2 y3 y4 y5 y6 y7 y8 r0 r2
 generalize W2.alloc (Qc #[I J op,I J 0,I J 0,I O 0,I O 0,V none 0 0,V none 0 0,V none 0 0,G false] 39)=W3 at *
 obtain ⟨gp,hgp⟩:∃g,g=W2.heap.size:=⟨_,rfl⟩
 rw[←hgp]at HP3 HG ⊢
 clear hgp HX2 HR2 HB2 HK3
 obtain ⟨y0,y1,y2,y3,y4,y5,y6,y7,y8⟩:=ca9 HX3.out
 have r2:=HR3.out.at (k:=2) (v:=I J K) rfl
 obtain ⟨p0,p1,p2,p3,p4,p5,p6,p7,p8⟩:=ca9 HP3.out
 go_upto_block 0 with fail
 refine wp_cut (fun a' w'=>∃f:Nat→Value,(Hid (Below w.heap.size w w')∧Hid (CA w.heap.size #[I J op,I J a,I J b,I O n,I O h,V pl nl cl,V pb nb cb,V pe ne ce,G ot] 39 w')∧Hid (CA gp #[I J op,I J na,I J nb',I O nn,I O nh,V none 0 0,V none 0 0,V none 0 0,G false] 39 w'))∧a'=⟨((([.agg #[I J op,I J a,I J b,I O n,I O h,V pl nl cl,V pb nb cb,V pe ne ce,G ot],Qp (some ⟨w.heap.size,0,none⟩),G false,Qp (some ⟨gr,0,none⟩),G ia,G ib,G vb,G ra,G lv,Qp (some ⟨gp,0,none⟩),I J nl,G ok]:List Value))++tl f 277 12).toArray,[]⟩) ?rs ?fs
 case rs =>
  rintro _ wc ⟨f,⟨HB4,HX4,HP4⟩,rfl⟩
  simp only[tl,List.cons_append,List.nil_append,Nat.reduceAdd]
  clear y0 y1 y2 y3 y4 y5 y6 y7 y8 p0 p1 p2 p3 p4 p5 p6 p7 p8 r2
  obtain ⟨y0,y1,y2,y3,y4,y5,y6,y7,y8⟩:=ca9 HX4.out
  obtain ⟨p0,p1,p2,p3,p4,p5,p6,p7,p8⟩:=ca9 HP4.out
  obtain ⟨za,e1⟩:∃x,(a==na)=x:=⟨_,rfl⟩
  obtain ⟨zb,e2⟩:∃x,(b==nb')=x:=⟨_,rfl⟩
  obtain ⟨zn,e3⟩:∃x,((n:Int)==(nn:Int))=x:=⟨_,rfl⟩
  obtain ⟨zh,e4⟩:∃x,((h:Int)==(nh:Int))=x:=⟨_,rfl⟩
  have HQ:=hid (And.intro e1 (And.intro e2 (And.intro e3 e4)))
  rcases (show ok=false∨(ok=true∧za=false)∨(ok=true∧za=true∧zb=false)∨(ok=true∧za=true∧zb=true∧zn=false)∨(ok=true∧za=true∧zb=true∧zn=true∧zh=false)∨(ok=true∧za=true∧zb=true∧zn=true∧zh=true) by cases ok<;>cases za<;>cases zb<;>cases zn<;>cases zh<;>simp) with rfl|⟨rfl,rfl⟩|⟨rfl,rfl,rfl⟩|⟨rfl,rfl,rfl,rfl⟩|⟨rfl,rfl,rfl,rfl,rfl⟩|⟨rfl,rfl,rfl,rfl,rfl⟩
  all_goals
   go_wp2
   go_ret
   obtain ⟨h6,h7,h8,h9⟩:=HQ.out
   refine ⟨?_,HB4.out⟩
   rw[h6,h7,h8,h9]
   have h:=HX0.out
   have e:(k1||!(bb1||bb2||ot))=true:=by revert h;cases k1<;>cases bb1<;>cases bb2<;>cases ot<;>simp
   rw[e]
   simp
 intro _ _ _ _
 rcases HKS.out with ⟨hkk,rfl,rfl,rfl,rfl,rfl⟩|⟨hkk,rfl,rfl,rfl,rfl,rfl⟩|⟨hkk,rfl,rfl,rfl,rfl,rfl⟩|⟨hkk,rfl,rfl,rfl,rfl,rfl⟩|⟨hkk,rfl,rfl,rfl,rfl,rfl⟩|⟨hkk,rfl,rfl,rfl,rfl,rfl⟩|⟨hkk,rfl,rfl,rfl,rfl,rfl⟩|⟨hkk,rfl,rfl,rfl,rfl,rfl⟩|⟨hkk,rfl,rfl,rfl,rfl,rfl⟩|⟨hkk,rfl,rfl,rfl,rfl,rfl⟩|⟨hkk,rfl,rfl,rfl,rfl,rfl⟩|⟨hkk,rfl,rfl,rfl,rfl,rfl⟩|⟨hkk,rfl,rfl,rfl,rfl,rfl⟩
 ·as_aux_lemma =>
  rcases hkk with rfl|rfl|rfl
  all_goals first|(exact absurd HK1.out (by decide))|skip
  all_goals
   have d_q0:=D_q0.out
   go_upto_region 18 with fail
   cases q0
   all_goals (go_wp2;refine Met.intro ?_;go_step;exact ⟨_,⟨hid HB3.out,hid (HX3.out.below (QB gp W3) HG.out),hid HP3.out⟩,congrArg (fun l=>Act.mk (List.toArray l) []) (tl_of 277 12 _ rfl)⟩)
 ·as_aux_lemma =>
  subst hkk
  all_goals first|(exact absurd HK1.out (by decide))|skip
  all_goals
   have d_q0:=D_q0.out
   have d_a0:=D_a0.out
   have d_b0:=D_b0.out
   have d_a1:=D_a1.out
   have d_a2:=D_a2.out
   have d_op4:=D_op4.out
   have d_ne0:=D_ne0.out
   have h3:=H_3.out
   have f1:=HP3.out.free 1
   have f2:=HP3.out.free 2
   go_upto_region 20 with fail
   cases q0 with
   |false=>(go_wp2;refine Met.intro ?_;go_step;exact ⟨_,⟨hid ((HB3.out.setCell (p:=⟨gp,1,none⟩) (Qo HG.out) (I J a)).setCell (p:=⟨gp,2,none⟩) (Qo HG.out) (I J b)),hid (HX3.out.below (((QB gp W3).setCell (p:=⟨gp,1,none⟩) (Ql _) (I J a)).setCell (p:=⟨gp,2,none⟩) (Ql _) (I J b)) HG.out),hid ((HP3.out.set (k:=1) (I J a)).set (k:=2) (I J b))⟩,congrArg (fun l=>Act.mk (List.toArray l) []) (tl_of 277 12 _ rfl)⟩)
   |true =>
    rcases h3 with ⟨rfl,rfl,rfl⟩|⟨rfl,rfl,rfl⟩|⟨rfl,rfl,rfl⟩|⟨rfl,rfl,rfl⟩
    ·cases b0
     case' true=>cases op4<;>cases ot<;>cases ne0
     all_goals (go_wp2;refine Met.intro ?_;go_step;exact ⟨_,⟨hid ((HB3.out.setCell (p:=⟨gp,1,none⟩) (Qo HG.out) (I J a)).setCell (p:=⟨gp,2,none⟩) (Qo HG.out) (I J b)),hid (HX3.out.below (((QB gp W3).setCell (p:=⟨gp,1,none⟩) (Ql _) (I J a)).setCell (p:=⟨gp,2,none⟩) (Ql _) (I J b)) HG.out),hid ((HP3.out.set (k:=1) (I J a)).set (k:=2) (I J b))⟩,congrArg (fun l=>Act.mk (List.toArray l) []) (tl_of 277 12 _ rfl)⟩)
    ·cases vb
     case' true=>cases op4<;>cases ot<;>cases ne0
     all_goals (go_wp2;refine Met.intro ?_;go_step;exact ⟨_,⟨hid ((HB3.out.setCell (p:=⟨gp,1,none⟩) (Qo HG.out) (I J a)).setCell (p:=⟨gp,2,none⟩) (Qo HG.out) (I J b)),hid (HX3.out.below (((QB gp W3).setCell (p:=⟨gp,1,none⟩) (Ql _) (I J a)).setCell (p:=⟨gp,2,none⟩) (Ql _) (I J b)) HG.out),hid ((HP3.out.set (k:=1) (I J a)).set (k:=2) (I J b))⟩,congrArg (fun l=>Act.mk (List.toArray l) []) (tl_of 277 12 _ rfl)⟩)
    ·cases ib
     case' true=>cases op4<;>cases ot<;>cases ne0
     all_goals (go_wp2;refine Met.intro ?_;go_step;exact ⟨_,⟨hid ((HB3.out.setCell (p:=⟨gp,1,none⟩) (Qo HG.out) (I J a)).setCell (p:=⟨gp,2,none⟩) (Qo HG.out) (I J b)),hid (HX3.out.below (((QB gp W3).setCell (p:=⟨gp,1,none⟩) (Ql _) (I J a)).setCell (p:=⟨gp,2,none⟩) (Ql _) (I J b)) HG.out),hid ((HP3.out.set (k:=1) (I J a)).set (k:=2) (I J b))⟩,congrArg (fun l=>Act.mk (List.toArray l) []) (tl_of 277 12 _ rfl)⟩)
    (go_wp2;refine Met.intro ?_;go_step;exact ⟨_,⟨hid ((HB3.out.setCell (p:=⟨gp,1,none⟩) (Qo HG.out) (I J a)).setCell (p:=⟨gp,2,none⟩) (Qo HG.out) (I J b)),hid (HX3.out.below (((QB gp W3).setCell (p:=⟨gp,1,none⟩) (Ql _) (I J a)).setCell (p:=⟨gp,2,none⟩) (Ql _) (I J b)) HG.out),hid ((HP3.out.set (k:=1) (I J a)).set (k:=2) (I J b))⟩,congrArg (fun l=>Act.mk (List.toArray l) []) (tl_of 277 12 _ rfl)⟩)
 ·as_aux_lemma =>
  rcases hkk with rfl|rfl|rfl|rfl|rfl|rfl|rfl|rfl
  all_goals first|(exact absurd HK1.out (by decide))|skip
  all_goals
   have d_q0:=D_q0.out
   have f1:=HP3.out.free 1
   go_upto_region 31 with fail
   cases ia
   case' true=>cases q0
   all_goals (go_wp2;refine Met.intro ?_;go_step;exact ⟨_,⟨hid (HB3.out.setCell (p:=⟨gp,1,none⟩) (Qo HG.out) (I J a)),hid (HX3.out.below ((QB gp W3).setCell (p:=⟨gp,1,none⟩) (Ql _) (I J a)) HG.out),hid (HP3.out.set (k:=1) (I J a))⟩,congrArg (fun l=>Act.mk (List.toArray l) []) (tl_of 277 12 _ rfl)⟩)
 ·as_aux_lemma =>
  subst hkk
  all_goals first|(exact absurd HK1.out (by decide))|skip
  all_goals
   have f1:=HP3.out.free 1
   go_upto_region 34 with fail
   cases ia
   case' true=>cases l3
   all_goals (go_wp2_with (first|(go_at_call 231;(with_reducible refine (H3 _ (HB3.out.mono hB)).out.mono ?_);rintro e w3 ⟨rfl,rfl⟩)|(go_at_call 231;(with_reducible refine (H8 _ (HB3.out.mono hB)).out.mono ?_);rintro e w3 ⟨rfl,rfl⟩));refine Met.intro ?_;go_step;exact ⟨_,⟨hid (HB3.out.setCell (p:=⟨gp,1,none⟩) (Qo HG.out) (I J a)),hid (HX3.out.below ((QB gp W3).setCell (p:=⟨gp,1,none⟩) (Ql _) (I J a)) HG.out),hid (HP3.out.set (k:=1) (I J a))⟩,congrArg (fun l=>Act.mk (List.toArray l) []) (tl_of 277 12 _ rfl)⟩)
 ·as_aux_lemma =>
  rcases hkk with rfl|rfl|rfl|rfl
  all_goals first|(exact absurd HK1.out (by decide))|skip
  all_goals
   have d_q0:=D_q0.out
   have f1:=HP3.out.free 1
   have f2:=HP3.out.free 2
   go_upto_region 40 with fail
   cases ia
   case' true=>cases ib
   case' true=>cases q0
   all_goals (go_wp2;refine Met.intro ?_;go_step;exact ⟨_,⟨hid ((HB3.out.setCell (p:=⟨gp,1,none⟩) (Qo HG.out) (I J a)).setCell (p:=⟨gp,2,none⟩) (Qo HG.out) (I J b)),hid (HX3.out.below (((QB gp W3).setCell (p:=⟨gp,1,none⟩) (Ql _) (I J a)).setCell (p:=⟨gp,2,none⟩) (Ql _) (I J b)) HG.out),hid ((HP3.out.set (k:=1) (I J a)).set (k:=2) (I J b))⟩,congrArg (fun l=>Act.mk (List.toArray l) []) (tl_of 277 12 _ rfl)⟩)
 ·as_aux_lemma =>
  subst hkk
  all_goals first|(exact absurd HK1.out (by decide))|skip
  all_goals
   have d_q1:=D_q1.out
   have f1:=HP3.out.free 1
   have f2:=HP3.out.free 2
   go_upto_region 44 with fail
   cases ia
   case' true=>cases ib
   case' true=>cases q1
   case' true=>cases l8
   all_goals (go_wp2_with (first|(go_at_call 231;(with_reducible refine (H3 _ (HB3.out.mono hB)).out.mono ?_);rintro e w3 ⟨rfl,rfl⟩)|(go_at_call 231;(with_reducible refine (H8 _ (HB3.out.mono hB)).out.mono ?_);rintro e w3 ⟨rfl,rfl⟩));refine Met.intro ?_;go_step;exact ⟨_,⟨hid ((HB3.out.setCell (p:=⟨gp,1,none⟩) (Qo HG.out) (I J a)).setCell (p:=⟨gp,2,none⟩) (Qo HG.out) (I J b)),hid (HX3.out.below (((QB gp W3).setCell (p:=⟨gp,1,none⟩) (Ql _) (I J a)).setCell (p:=⟨gp,2,none⟩) (Ql _) (I J b)) HG.out),hid ((HP3.out.set (k:=1) (I J a)).set (k:=2) (I J b))⟩,congrArg (fun l=>Act.mk (List.toArray l) []) (tl_of 277 12 _ rfl)⟩)
 ·as_aux_lemma =>
  subst hkk
  all_goals first|(exact absurd HK1.out (by decide))|skip
  all_goals
   go_upto_region 48 with fail
   cases lv
   all_goals (go_wp2;refine Met.intro ?_;go_step;exact ⟨_,⟨hid HB3.out,hid (HX3.out.below (QB gp W3) HG.out),hid HP3.out⟩,congrArg (fun l=>Act.mk (List.toArray l) []) (tl_of 277 12 _ rfl)⟩)
 ·as_aux_lemma =>
  rcases hkk with rfl|rfl
  all_goals first|(exact absurd HK1.out (by decide))|skip
  all_goals
   have d_n32:=D_n32.out
   have d_q0:=D_q0.out
   have f3:=HP3.out.free 3
   go_upto_region 51 with fail
   cases n32
   case' true=>cases q0
   all_goals (go_wp2;refine Met.intro ?_;go_step;exact ⟨_,⟨hid (HB3.out.setCell (p:=⟨gp,3,none⟩) (Qo HG.out) (I O n)),hid (HX3.out.below ((QB gp W3).setCell (p:=⟨gp,3,none⟩) (Ql _) (I O n)) HG.out),hid (HP3.out.set (k:=3) (I O n))⟩,congrArg (fun l=>Act.mk (List.toArray l) []) (tl_of 277 12 _ rfl)⟩)
 ·as_aux_lemma =>
  rcases hkk with rfl|rfl
  all_goals first|(exact absurd HK1.out (by decide))|skip
  all_goals
   have d_q0:=D_q0.out
   have f3:=HP3.out.free 3
   go_upto_region 55 with fail
   cases q0
   all_goals (go_wp2;refine Met.intro ?_;go_step;exact ⟨_,⟨hid (HB3.out.setCell (p:=⟨gp,3,none⟩) (Qo HG.out) (I O n)),hid (HX3.out.below ((QB gp W3).setCell (p:=⟨gp,3,none⟩) (Ql _) (I O n)) HG.out),hid (HP3.out.set (k:=3) (I O n))⟩,congrArg (fun l=>Act.mk (List.toArray l) []) (tl_of 277 12 _ rfl)⟩)
 ·as_aux_lemma =>
  subst hkk
  all_goals first|(exact absurd HK1.out (by decide))|skip
  all_goals
   have d_q0:=D_q0.out
   have f3:=HP3.out.free 3
   have f4:=HP3.out.free 4
   go_upto_region 58 with fail
   cases q0
   all_goals (go_wp2;refine Met.intro ?_;go_step;exact ⟨_,⟨hid ((HB3.out.setCell (p:=⟨gp,3,none⟩) (Qo HG.out) (I O n)).setCell (p:=⟨gp,4,none⟩) (Qo HG.out) (I O h)),hid (HX3.out.below (((QB gp W3).setCell (p:=⟨gp,3,none⟩) (Ql _) (I O n)).setCell (p:=⟨gp,4,none⟩) (Ql _) (I O h)) HG.out),hid ((HP3.out.set (k:=3) (I O n)).set (k:=4) (I O h))⟩,congrArg (fun l=>Act.mk (List.toArray l) []) (tl_of 277 12 _ rfl)⟩)
 ·as_aux_lemma =>
  subst hkk
  all_goals first|(exact absurd HK1.out (by decide))|skip
  all_goals
   have d_q0:=D_q0.out
   have f1:=HP3.out.free 1
   go_upto_region 62 with fail
   cases ra
   case' true=>cases q0
   all_goals (go_wp2;refine Met.intro ?_;go_step;exact ⟨_,⟨hid (HB3.out.setCell (p:=⟨gp,1,none⟩) (Qo HG.out) (I J a)),hid (HX3.out.below ((QB gp W3).setCell (p:=⟨gp,1,none⟩) (Ql _) (I J a)) HG.out),hid (HP3.out.set (k:=1) (I J a))⟩,congrArg (fun l=>Act.mk (List.toArray l) []) (tl_of 277 12 _ rfl)⟩)
 ·as_aux_lemma =>
  subst hkk
  all_goals first|(exact absurd HK1.out (by decide))|skip
  all_goals
   have d_q16:=D_q16.out
   go_upto_region 65 with fail
   cases q16
   case' true=>cases l8
   all_goals (go_wp2_with (first|(go_at_call 231;(with_reducible refine (H3 _ (HB3.out.mono hB)).out.mono ?_);rintro e w3 ⟨rfl,rfl⟩)|(go_at_call 231;(with_reducible refine (H8 _ (HB3.out.mono hB)).out.mono ?_);rintro e w3 ⟨rfl,rfl⟩));refine Met.intro ?_;go_step;exact ⟨_,⟨hid HB3.out,hid (HX3.out.below (QB gp W3) HG.out),hid HP3.out⟩,congrArg (fun l=>Act.mk (List.toArray l) []) (tl_of 277 12 _ rfl)⟩)
 as_aux_lemma =>
 subst hkk
 all_goals first|(exact absurd HK1.out (by decide))|skip
 all_goals
  have d_an:=D_an.out
  have d_a8:=D_a8.out
  have d_q0:=D_q0.out
  have f1:=HP3.out.free 1
  go_upto_region 67 with fail
  cases an
  case' true=>cases a8
  case' true=>cases q0
  all_goals (go_wp2;refine Met.intro ?_;go_step;exact ⟨_,⟨hid (HB3.out.setCell (p:=⟨gp,1,none⟩) (Qo HG.out) (I J a)),hid (HX3.out.below ((QB gp W3).setCell (p:=⟨gp,1,none⟩) (Ql _) (I J a)) HG.out),hid (HP3.out.set (k:=1) (I J a))⟩,congrArg (fun l=>Act.mk (List.toArray l) []) (tl_of 277 12 _ rfl)⟩)
theorem one_K (K op a b:Int) (n h:Nat) (l:List Int) (nl:Nat) (hnl:nl=l.length) (pl pb pe:Option Addr) (cl nb cb ne ce:Nat) (ot:Bool) (B:Nat) (w:World) (hB:B≤w.heap.size) (hl:LI B w (V pl nl cl) l)
  (c0:Int) (v1 v3 v4:List UInt8) (v5:Bool) (hc0:decide (c0<0)=false) (hK:K=0∨K=1∨K=2∨K=3∨K=4∨K=5∨K=6∨K=7∨K=8∨K=9∨K=10∨K=11∨K=12∨K=13∨K=14∨K=15∨K=16∨K=17∨K=18∨K=19∨K=20∨K=21∨K=22∨K=23∨K=24∨K=25∨K=26) (hk:∀W,Calls QP 153 #[I J op] W fun e w'=>e=Qr (.agg #[I J c0,Qs (str v1),I J K,Qs (str v3),Qs (str v4),G v5])∧Below W.heap.size W w') :
  Calls QP 209 #[.agg #[I J op,I J a,I J b,I O n,I O h,V pl nl cl,V pb nb cb,V pe ne ce,G ot]] w fun e w'=>e=Qr (G (oneR K op a b n h l nl ot nb ne))∧Below w.heap.size w w':=by
 refine one_L K op a b _ _ _ _ _ n h l nl hnl pl pb pe cl nb cb ne ce ot B w hB hl c0 v1 v3 v4 v5 hc0 ?_ hk
 clear hk
 rcases hK with rfl|rfl|rfl|rfl|rfl|rfl|rfl|rfl|rfl|rfl|rfl|rfl|rfl|rfl|rfl|rfl|rfl|rfl|rfl|rfl|rfl|rfl|rfl|rfl|rfl|rfl|rfl<;>simp[okR,naR,nbR,nnR,nhR]
end Go.Proofs.YtjgeedgphcjhoaaGreat
