/-
  RInn, EAw, Cop5, Cop6, Aw1, EAw2, ECodeL, WMod1: merged, what the law does not reach left out (each text says what it holds where it lies in wip). No condition.
-/
import Derived.Test.YtjgeedgphcjhoaaGreatS21
import Derived.Test.YtjgeedgphcjhoaaGreatS19
import Derived.Test.YtjgeedgphcjhoaaGreatS07
import Derived.Laws.BytesArg
import Derived.Lib.SlBytesConst
import Derived.Test.YtjgeedgphcjhoaaGreatS02
import Derived.OwnWalk
import Derived.Laws.OwnMore
import Derived.Lib.SliceRun
import Derived.Test.YtjgeedgphcjhoaaGreatS05
import Derived.Test.YtjgeedgphcjhoaaGreatS01
set_option linter.unusedSimpArgs false
set_option linter.unusedVariables false
set_option maxRecDepth 100000
set_option maxHeartbeats 64000000
namespace Go.Proofs.YtjgeedgphcjhoaaGreat
open Go.RowKit
open Value renaming int → I,slice → V,bool → G,string → Qs,pointer → Qp
open IntKind renaming i64 → J,u64 → O
open Ending renaming returned → Qr
open Obj renaming cells → Qc
open _root_.Go.Proofs.Tryz renaming prog → QP
open Nat renaming le_refl → Ql,le_of_lt → Qo,le_trans → Qk,zero_le → Qz
open List renaming length_append → QA,length_cons → QC,length_nil → QN
open Below renaming refl → QB
open Lib renaming byteCells → QY
theorem opL_small0 (op:Int) (h:op<64512):opL op=[byI op]:=by unfold opL;rw[if_neg (by omega),if_neg (by omega)]
theorem behR_says (k:Int) (op a b:Int) (n h:Nat) (l:List Int) (pl pb pe:Option Addr) (cl nb cb ne ce:Nat) (ot:Bool) (B:Nat) (w:World) (hB:B≤w.heap.size) (hl:LI B w (V pl l.length cl) l) (hnl:l.length+200≤1000000000000) (hk:0≤k∧k≤26)
  (hnn:n<18446744073709551616) (hh:h<18446744073709551616) (hb:i64C b) (ha:k=1→a=0∨a=1∨a=2) (eb ee:List UInt8) (hn:eb.length+ee.length+100≤140737488355000)
  (h1:∀W,Below w.heap.size w W→Calls QP 139 #[V pb nb cb] W (BO W eb)) (h2:∀W,Below w.heap.size w W→Calls QP 139 #[V pe ne ce] W (BO W ee)) :
  Calls QP 232 #[.agg #[I J op,I J a,I J b,I O n,I O h,V pl l.length cl,V pb nb cb,V pe ne ce,G ot],I J k] w (BO w (behL k a b n h l ot eb ee)):=by
 rcases (show k=0∨k=1∨k=2∨k=3∨k=4∨k=5∨k=6∨k=7∨k=8∨k=9∨k=10∨k=11∨k=12∨k=13∨k=14∨k=15∨k=16∨k=17∨k=18∨k=19∨k=20∨k=21∨k=22∨k=23∨k=24∨k=25∨k=26 by omega) with rfl|rfl|rfl|rfl|rfl|rfl|rfl|rfl|rfl|rfl|rfl|rfl|rfl|rfl|rfl|rfl|rfl|rfl|rfl|rfl|rfl|rfl|rfl|rfl|rfl|rfl|rfl
 ·have:=beh_0 op a b n h l pl pb pe cl nb cb ne ce ot B w hB hl hnl hnn hh
  simpa[behL]using this
 ·exact beh_1 op a b n h pl pb pe l.length cl nb cb ne ce ot w (ha rfl) hb eb ee hn h1 h2
 ·have:=beh_2 2 (by decide) op a b n h l pl pb pe cl nb cb ne ce ot B w hB hl hnl hnn hh
  simpa[behL]using this
 ·have:=beh_3 op a b n h l pl pb pe cl nb cb ne ce ot B w hB hl hnl hnn hh
  simpa[behL]using this
 ·have:=beh_2 4 (by decide) op a b n h l pl pb pe cl nb cb ne ce ot B w hB hl hnl hnn hh
  simpa[behL]using this
 ·have:=beh_5 5 (by decide) op a b n h l pl pb pe cl nb cb ne ce ot B w hB hl hnl hnn hh
  simpa[behL]using this
 ·have:=beh_6 op a b n h l pl pb pe cl nb cb ne ce ot B w hB hl hnl hnn hh
  simpa[behL]using this
 ·have:=beh_2 7 (by decide) op a b n h l pl pb pe cl nb cb ne ce ot B w hB hl hnl hnn hh
  simpa[behL]using this
 ·have:=beh_2 8 (by decide) op a b n h l pl pb pe cl nb cb ne ce ot B w hB hl hnl hnn hh
  simpa[behL]using this
 ·have:=beh_2 9 (by decide) op a b n h l pl pb pe cl nb cb ne ce ot B w hB hl hnl hnn hh
  simpa[behL]using this
 ·have:=beh_5 10 (by decide) op a b n h l pl pb pe cl nb cb ne ce ot B w hB hl hnl hnn hh
  simpa[behL]using this
 ·have:=beh_11 op a b n h l pl pb pe cl nb cb ne ce ot B w hB hl hnl hnn hh
  simpa[behL]using this
 ·have:=beh_12 op a b n h l pl pb pe cl nb cb ne ce ot B w hB hl hnl hnn hh
  simpa[behL]using this
 ·have:=beh_13 op a b n h l pl pb pe cl nb cb ne ce ot B w hB hl hnl hnn hh
  simpa[behL]using this
 ·have:=beh_14 op a b n h l pl pb pe cl nb cb ne ce ot B w hB hl hnl hnn hh
  simpa[behL]using this
 ·have:=beh_15 op a b n h l pl pb pe cl nb cb ne ce ot B w hB hl hnl hnn hh
  simpa[behL]using this
 ·have:=beh_16 16 (by decide) op a b n h l pl pb pe cl nb cb ne ce ot B w hB hl hnl hnn hh
  simpa[behL]using this
 ·have:=beh_17 op a b n h l pl pb pe cl nb cb ne ce ot B w hB hl hnl hnn hh
  simpa[behL]using this
 ·have:=beh_2 18 (by decide) op a b n h l pl pb pe cl nb cb ne ce ot B w hB hl hnl hnn hh
  simpa[behL]using this
 ·have:=beh_19 op a b n h l pl pb pe cl nb cb ne ce ot B w hB hl hnl hnn hh
  simpa[behL]using this
 ·have:=beh_5 20 (by decide) op a b n h l pl pb pe cl nb cb ne ce ot B w hB hl hnl hnn hh
  simpa[behL]using this
 ·have:=beh_2 21 (by decide) op a b n h l pl pb pe cl nb cb ne ce ot B w hB hl hnl hnn hh
  simpa[behL]using this
 ·have:=beh_5 22 (by decide) op a b n h l pl pb pe cl nb cb ne ce ot B w hB hl hnl hnn hh
  simpa[behL]using this
 ·have:=beh_23 op a b n h l pl pb pe cl nb cb ne ce ot B w hB hl hnl hnn hh
  simpa[behL]using this
 ·have:=beh_24 op a b n h l pl pb pe cl nb cb ne ce ot B w hB hl hnl hnn hh
  simpa[behL]using this
 ·have:=beh_16 25 (by decide) op a b n h l pl pb pe cl nb cb ne ce ot B w hB hl hnl hnn hh
  simpa[behL]using this
 have:=beh_26 op a b n h l pl pb pe cl nb cb ne ce ot B w hB hl hnl hnn hh
 simpa[behL]using this
theorem oneR_says (op a b:Int) (n h:Nat) (l:List Int) (pl pb pe:Option Addr) (nl cl nb cb ne ce:Nat) (hnl0:nl=l.length) (ot:Bool) (B:Nat) (w:World) (hB:B≤w.heap.size) (hl:LI B w (V pl nl cl) l) (hnl:l.length+200≤1000000000000)
  (ho:0≤op∧op<65024∧n<18446744073709551616∧h<18446744073709551616∧i64C b∧((lineL op).2.1=1→a=0∨a=1∨a=2)) (eb ee:List UInt8) (hn:eb.length+ee.length+20*l.length+400≤140737488355000)
  (h1:∀W,Below w.heap.size w W→Calls QP 139 #[V pb nb cb] W (BO W eb)) (h2:∀W,Below w.heap.size w W→Calls QP 139 #[V pe ne ce] W (BO W ee)) :
  Calls QP 210 #[.agg #[I J op,I J a,I J b,I O n,I O h,V pl nl cl,V pb nb cb,V pe ne ce,G ot]] w (BO w (opL op++behL (lineL op).2.1 a b n h l ot eb ee)):=by
 subst hnl0
 obtain ⟨o0,o1,o2,o3,o4,o5⟩:=ho
 obtain ⟨k0,k1,_⟩:=line_ok op
 have hlen:=behL_len (lineL op).2.1 a b n h l ot eb ee o4
 have hof:=Of_kind op
 generalize (lineL op).2.1=k at *
 have hbe:=fun W (hW:Below w.heap.size w W)=>behR_says k op a b n h l pl pb pe cl nb cb ne ce ot B W (Qk hB hW.size) (hl.below (hW.mono hB)) hnl ⟨k0,k1⟩ o2 o3 o4 o5 eb ee (by omega) (fun W' hW'=>h1 W' (hW.trans (hW'.mono hW.size))) (fun W' hW'=>h2 W' (hW.trans (hW'.mono hW.size)))
 by_cases c0:op<64512
 ·have:=rone_0 op a b n h pl pb pe l.length cl nb cb ne ce ot w k (behL k a b n h l ot eb ee) c0 (by omega) hof hbe
  rw[opL_small0 op c0]
  exact this
 by_cases c1:op<64768
 ·have:=rone_1 op a b n h pl pb pe l.length cl nb cb ne ce ot w k (behL k a b n h l ot eb ee) (by omega) (by omega) hof hbe
  have e:opL op=252::uI (op-64512):=by unfold opL;rw[if_neg (by omega),if_pos (by omega)]
  rw[e]
  exact this
 have:=rone_2 op a b n h pl pb pe l.length cl nb cb ne ce ot w k (behL k a b n h l ot eb ee) (by omega) (by omega) hof hbe
 have e:opL op=253::uI (op-64768):=by unfold opL;rw[if_pos (by omega)]
 rw[e]
 exact this
theorem inner_says (B:Nat):∀(N:Nat) (f:Fo),f.cnt<N→f.cnt<9223372036854775806→okE f→f.siz+200≤1000000000000→∀(v:Value) (w:World),B≤w.heap.size→SA B w v f→Calls QP 139 #[v] w (BO w f.enc):=by
 intro N
 induction N with
 |zero=>intro f h;omega
 |succ N ih =>
  intro f hf hf2 hok hsz v w hB hs
  obtain ⟨p,cp,g0,o0,rfl,hp,hfa⟩:=hs
  have HIH:=hid ih
  have HP:=hid hp
  have HBW:=hid hB
  obtain ⟨m,hm⟩:∃m,m=f.len:=⟨_,rfl⟩
  rw[←hm]at HP ⊢
  have hml:m≤f.cnt:=by
   have:∀f:Fo,f.len≤f.cnt:=by
    intro f
    induction f with
    |nil=>exact Ql _
    |cons _ _ _ _ _ _ _ _ _ _ _ _ ihr=>simp only[Fo.len,Fo.cnt];omega
   rw[hm];exact this f
  obtain ⟨E,hE⟩:∃E,E=f.enc:=⟨_,rfl⟩
  rw[←hE]
  have HS:Hid (0+f.len=m∧(f.cnt<N+1∧f.cnt<9223372036854775806)∧FA B w f g0 (o0+0*9)∧okE f∧E=[]++f.enc∧([]:List UInt8).length+f.siz+200≤1000000000000):=⟨by rw[hm];omega,⟨hf,hf2⟩,by simpa using hfa,hok,hE,by simpa using hsz⟩
  have hm62:(m:Int)<9223372036854775807:=by omega
  clear ih hp hm hml hfa hf hf2 hE hok hsz hB
  go_enter Tryz.func139,Tryz.ntmps139
  go_wp2
  go_loopw [3,4] (fun vo vi wr=>∃(i:Nat) (fi:Fo) (bi:List UInt8) (p:Option Addr) (q c:Nat),i≤m∧vi=I J i∧vo=V p q c∧Hid (wr.ownsRow w.heap.size 5 1 (V p q c) bi.length (QY bi))∧Hid (RF w.heap.size w wr)∧Hid (i+fi.len=m∧(fi.cnt<N+1∧fi.cnt<9223372036854775806)∧FA B wr fi g0 (o0+i*9)∧okE fi∧E=bi++fi.enc∧bi.length+fi.siz+200≤1000000000000)) (fun _ vi _=>m-(intOf vi).toNat)
  case atStart=>exact ⟨0,f,[],none,0,0,Qz _,rfl,rfl,own_nil _ _,RF.refl _ _,HS⟩
  obtain ⟨i,fi,bi,p1,q1,c1,him,rfl,rfl,HR,HF,HI⟩:=hrel
  cases fi with
  |nil =>
   have hi:i=m:=HI.out.1
   subst hi
   have HE:=hid (show E=bi by simpa[Fo.enc]using HI.out.2.2.2.2.1)
   go_wp2
   go_ret
   refine ⟨V p1 q1 c1,rfl,?_,HF.out.below (Ql _)⟩
   rw[HE.out]
   exact HR.out
  |cons op a b n h l ot body els rest =>
   obtain ⟨hg,⟨vl,vb,ve,x0,x1,x2,x3,x4,x5,x6,x7,x8,hl,hbo,hel⟩,hrest⟩:=HI.out.2.2.1
   obtain ⟨pl,cl,evl,_⟩:=id hl
   obtain ⟨pb,cb,gb',ob',evb,_⟩:=id hbo
   obtain ⟨pe,ce,ge',oe',eve,_⟩:=id hel
   obtain ⟨nl,hnl⟩:∃x,x=l.length:=⟨_,rfl⟩
   obtain ⟨nb,hnb⟩:∃x,x=body.len:=⟨_,rfl⟩
   obtain ⟨ne,hne⟩:∃x,x=els.len:=⟨_,rfl⟩
   rw[←hnl]at evl
   rw[←hnb]at evb
   rw[←hne]at eve
   subst evl evb eve
   clear hnb hne
   have hlt:i<m:=by have:=HI.out.1;simp only[Fo.len]at this;omega
   obtain rfl:=HP.out (by omega)
   have hcn:=HI.out.2.1
   simp only[Fo.cnt]at hcn
   have hBr:B≤wr.heap.size:=Qk HBW.out HF.out.size
   have hok:=HI.out.2.2.2.1
   have hsz:=HI.out.2.2.2.2.2
   simp only[Fo.siz]at hsz
   have hbe:=enc_siz body hok.2.1
   have hee:=enc_siz els hok.2.2.1
   have hb5:=behL_len (lineL op).2.1 a b n h l ot body.enc els.enc hok.1.2.2.2.2.1
   have hb6:=opL_len op
   have HLE:=hid (show i+1+rest.len=m∧(rest.cnt<N+1∧rest.cnt<9223372036854775806) by have h1:=HI.out.1;simp only[Fo.len]at h1;omega)
   have HEQ:Hid (E=bi++(opL op++behL (lineL op).2.1 a b n h l ot body.enc els.enc)++rest.enc):=by
    have:=HI.out.2.2.2.2.1
    simp only[Fo.enc]at this
    simpa[Hid,List.append_assoc]using this
   have HOKR:=hid hok.2.2.2
   have HSZ:=hid (show (bi++(opL op++behL (lineL op).2.1 a b n h l ot body.enc els.enc)).length+rest.siz+200≤1000000000000 by simp only[QA];omega)
   have HAP:=hid (show bi.length+(opL op++behL (lineL op).2.1 a b n h l ot body.enc els.enc).length≤140737488355000 by simp only[QA];omega)
   have HC:=hid (oneR_says op a b n h l pl pb pe nl cl nb cb ne ce hnl ot B wr hBr hl (by omega) hok.1 body.enc els.enc (by omega) (fun W hW=>HIH.out body (by omega) (by omega) hok.2.1 (by omega) _ W (Qk hBr hW.size) (SA.below hbo (hW.mono hBr))) (fun W hW=>HIH.out els (by omega) (by omega) hok.2.2.1 (by omega) _ W (Qk hBr hW.size) (SA.below hel (hW.mono hBr))))
   obtain ⟨X,hX⟩:∃X,X=opL op++behL (lineL op).2.1 a b n h l ot body.enc els.enc:=⟨_,rfl⟩
   rw[←hX]at HC HSZ HEQ HAP
   have HREST:=hid hrest
   clear hl hbo hel hrest HI hg hcn HS hok hsz hbe hee hb5 hb6 hX hBr hnl
   go_wp2_with (first
    |(go_at_call 210;(with_reducible refine HC.out.mono ?_);rintro e w1 ⟨v,rfl,ho,hb⟩;obtain ⟨p2,m2,c2,rfl⟩:=own_slice ho;have HO1:=hid ho;have HR1:=hid (own_kept HR.out hb);have HB1:=hid (HF.out.trans (RF.of hb));have HQ1:=hid (RF.of (B:=w.heap.size) hb);clear ho hb)
    |(at_builtin;refine append_rowW rfl _ _ rfl w.heap.size _ _ _ _ _ w1 HR1.out HO1.out HAP.out HB1.out.size (RF.refl _ _) rfl rfl ?_;intro p3 m3 c3 w3 ho3 hf3;have HO3:=hid ho3;have HF3:=hid (HB1.out.trans hf3);have HQ3:=hid (HQ1.out.trans hf3);clear ho3 hf3))
   go_roundw
   case rel =>
    refine ⟨i+1,rest,bi++X,p3,m3,c3,hlt,by go_num,rfl,HO3,HF3,HLE.out.1,HLE.out.2,?_,HOKR.out,HEQ.out,HSZ.out⟩
    have h9:o0+(i+1)*9=o0+i*9+9:=by omega
    rw[h9]
    exact FA.below ((HQ3.out.below HF.out.size).mono HBW.out) _ _ _ HREST.out
   case measure=>simp[intOf];omega
theorem ExprR_says (B:Nat) (f:Fo) (hn:f.cnt<9223372036854775806) (hok:okE f) (hsz:f.siz+200≤1000000000000) (v:Value) (w:World) (hB:B≤w.heap.size) (hs:SA B w v f):Calls QP 27 #[v] w (BO w (f.enc++[11])):=by
 have HI:=hid (inner_says B (f.cnt+1) f (by omega) hn hok hsz v w hB hs)
 have hl:=enc_siz f hok
 have HN:=hid (show f.enc.length+([11]:List UInt8).length≤140737488355000 by simp only[QC,QN];omega)
 obtain ⟨p,c,g',o',rfl,_,_⟩:=hs
 generalize f.len=m at *
 clear hl hn hok hsz hB
 go_enter Tryz.func27,Tryz.ntmps27
 go_wp2_with (first
  |(go_at_call 139;(with_reducible refine HI.out.mono ?_);rintro e w1 ⟨v,rfl,ho,hb⟩;obtain ⟨p1,m1,c1,rfl⟩:=own_slice ho;have HO1:=hid ho;have HB1:=hid hb;clear ho hb)
  |(at_builtin;refine append_rowW rfl _ _ rfl w.heap.size _ _ _ _ _ w (own_kept HO1.out ((QB _ _).alloc (Ql _) _)) (own_litc w1 11 11 rfl) HN.out (Ql _) ((RF.of HB1.out).alloc _) rfl rfl ?_;intro p3 m3 c3 w3 ho3 hf3;have HO3:=hid ho3;have HF3:=hid hf3;clear ho3 hf3))
 go_ret
 exact ⟨_,rfl,HO3.out,HF3.out.below (Ql _)⟩
theorem strOfNums_bytes (l:List UInt8):strOfNums (l.map fun b=>(b.toNat:Int))=⟨l.toArray⟩:=by
 unfold strOfNums
 congr 2
 rw[List.map_map]
 conv=>rhs;rw[←List.map_id l]
 apply List.map_congr_left
 intro b _
 simp
theorem conv_bytes {B:Nat} {w:World} {v:Value} {l:List UInt8} (h:BytesAt B w v l):(convert 52 9 v).run QP w=.ok (Qs ⟨l.toArray⟩) w:=by
 rcases h with ⟨rfl,rfl⟩|⟨g,off,cap,rfl,_,_,_,h5⟩
 ·rw[run_convert_bytes_nil w 52 5 Tryz.underlying52 Tryz.underlying5 0 0 9 Tryz.underlying9]
  rfl
 rw[run_convert_bytes_arg w 52 5 Tryz.underlying52 Tryz.underlying5 g off l.length cap (l.map fun b=>(b.toNat:Int)) (by simp) (fun i hi=>?_) 9 Tryz.underlying9,strOfNums_bytes]
 rw[h5 i l[i] (List.getElem?_eq_getElem hi)]
 simp[List.getElem?_eq_getElem hi]
theorem bytes_lit {w:World} (l:List UInt8) (cs:Array Value) (fr:Nat × Nat) (hcs:cs.toList=QY l) (n:Nat) (hn:n=l.length) (hl:l.length≤140737488351232) :
  BytesAt (w.heap.size+1) (w.alloc (.cells cs 5 fr)) (V (some ⟨w.heap.size,0,none⟩) n n) l:=by
 subst hn
 refine .inr ⟨w.heap.size,0,l.length,rfl,by omega,Ql _,⟨by omega,hl⟩,fun j u hj=>?_⟩
 rw[Nat.zero_add,cell_of_row _ _ _ cs 5 fr (heap_alloc_new _ _),←Array.getElem?_toList,hcs]
 simp only[QY,List.getElem?_map,hj,Option.map_some]
theorem sec_nil_97 (a:Addr) (i:Int) (k:Nat) (b:Addr) (w:World):Calls QP 97 #[Qp (some a),I J i,V none 0 0,.func (.func k) #[] #[Qp (some b)]] w fun e w'=>e=Qr (.tuple #[])∧Below w.heap.size w w':=by
 go_enter Tryz.func97,Tryz.ntmps97
 go_wp2
 (first|go_end0|refine bodyPost_ret (results_none rfl _ _ _) rfl ?_)
 exact ⟨rfl,(((QB w.heap.size w).alloc (Ql _) _).alloc (by simp only[size_al];omega) _).alloc (by simp only[size_al];omega) _⟩
theorem sec_nil_100 (a:Addr) (i:Int) (k:Nat) (b:Addr) (w:World):Calls QP 100 #[Qp (some a),I J i,V none 0 0,.func (.func k) #[] #[Qp (some b)]] w fun e w'=>e=Qr (.tuple #[])∧Below w.heap.size w w':=by
 go_enter Tryz.func100,Tryz.ntmps100
 go_wp2
 (first|go_end0|refine bodyPost_ret (results_none rfl _ _ _) rfl ?_)
 exact ⟨rfl,(((QB w.heap.size w).alloc (Ql _) _).alloc (by simp only[size_al];omega) _).alloc (by simp only[size_al];omega) _⟩
theorem sec_nil_103 (a:Addr) (i:Int) (k:Nat) (b:Addr) (w:World):Calls QP 103 #[Qp (some a),I J i,V none 0 0,.func (.func k) #[] #[Qp (some b)]] w fun e w'=>e=Qr (.tuple #[])∧Below w.heap.size w w':=by
 go_enter Tryz.func103,Tryz.ntmps103
 go_wp2
 (first|go_end0|refine bodyPost_ret (results_none rfl _ _ _) rfl ?_)
 exact ⟨rfl,(((QB w.heap.size w).alloc (Ql _) _).alloc (by simp only[size_al];omega) _).alloc (by simp only[size_al];omega) _⟩
theorem sec_nil_106 (a:Addr) (i:Int) (k:Nat) (b:Addr) (w:World):Calls QP 106 #[Qp (some a),I J i,V none 0 0,.func (.func k) #[] #[Qp (some b)]] w fun e w'=>e=Qr (.tuple #[])∧Below w.heap.size w w':=by
 go_enter Tryz.func106,Tryz.ntmps106
 go_wp2
 (first|go_end0|refine bodyPost_ret (results_none rfl _ _ _) rfl ?_)
 exact ⟨rfl,(((QB w.heap.size w).alloc (Ql _) _).alloc (by simp only[size_al];omega) _).alloc (by simp only[size_al];omega) _⟩
theorem sec_nil_109 (a:Addr) (i:Int) (k:Nat) (b:Addr) (w:World):Calls QP 109 #[Qp (some a),I J i,V none 0 0,.func (.func k) #[] #[Qp (some b)]] w fun e w'=>e=Qr (.tuple #[])∧Below w.heap.size w w':=by
 go_enter Tryz.func109,Tryz.ntmps109
 go_wp2
 (first|go_end0|refine bodyPost_ret (results_none rfl _ _ _) rfl ?_)
 exact ⟨rfl,(((QB w.heap.size w).alloc (Ql _) _).alloc (by simp only[size_al];omega) _).alloc (by simp only[size_al];omega) _⟩
theorem sec_nil_112 (a:Addr) (i:Int) (k:Nat) (b:Addr) (w:World):Calls QP 112 #[Qp (some a),I J i,V none 0 0,.func (.func k) #[] #[Qp (some b)]] w fun e w'=>e=Qr (.tuple #[])∧Below w.heap.size w w':=by
 go_enter Tryz.func112,Tryz.ntmps112
 go_wp2
 (first|go_end0|refine bodyPost_ret (results_none rfl _ _ _) rfl ?_)
 exact ⟨rfl,(((QB w.heap.size w).alloc (Ql _) _).alloc (by simp only[size_al];omega) _).alloc (by simp only[size_al];omega) _⟩
theorem sec_nil_115 (a:Addr) (i:Int) (k:Nat) (b:Addr) (w:World):Calls QP 115 #[Qp (some a),I J i,V none 0 0,.func (.func k) #[] #[Qp (some b)]] w fun e w'=>e=Qr (.tuple #[])∧Below w.heap.size w w':=by
 go_enter Tryz.func115,Tryz.ntmps115
 go_wp2
 (first|go_end0|refine bodyPost_ret (results_none rfl _ _ _) rfl ?_)
 exact ⟨rfl,(((QB w.heap.size w).alloc (Ql _) _).alloc (by simp only[size_al];omega) _).alloc (by simp only[size_al];omega) _⟩
theorem sec_nil_120 (a:Addr) (i:Int) (k:Nat) (b:Addr) (w:World):Calls QP 120 #[Qp (some a),I J i,V none 0 0,.func (.func k) #[] #[Qp (some b)]] w fun e w'=>e=Qr (.tuple #[])∧Below w.heap.size w w':=by
 go_enter Tryz.func120,Tryz.ntmps120
 go_wp2
 (first|go_end0|refine bodyPost_ret (results_none rfl _ _ _) rfl ?_)
 exact ⟨rfl,(((QB w.heap.size w).alloc (Ql _) _).alloc (by simp only[size_al];omega) _).alloc (by simp only[size_al];omega) _⟩
theorem sec_nil_126 (a:Addr) (i:Int) (k:Nat) (b:Addr) (w:World):Calls QP 126 #[Qp (some a),I J i,V none 0 0,.func (.func k) #[] #[Qp (some b)]] w fun e w'=>e=Qr (.tuple #[])∧Below w.heap.size w w':=by
 go_enter Tryz.func126,Tryz.ntmps126
 go_wp2
 (first|go_end0|refine bodyPost_ret (results_none rfl _ _ _) rfl ?_)
 exact ⟨rfl,(((QB w.heap.size w).alloc (Ql _) _).alloc (by simp only[size_al];omega) _).alloc (by simp only[size_al];omega) _⟩
theorem May_empty (w:World):Calls QP 15 #[.agg #[V none 0 0,V none 0 0,V none 0 0,V none 0 0,V none 0 0,V none 0 0,V none 0 0,I J 0,V none 0 0,V none 0 0,G false]] w fun e w'=>e=Qr (G true)∧Below w.heap.size w w':=by
 have key:=MayG_says none none none none none none none none none 0 0 0 0 0 0 0 0 0 0 0 0 0 0 0 0 0 0 true true true true true true true true true true true false 0 w
  (fun W _=>(all_nil_22 31 none 0 W).mono fun e w' h=>⟨h.1,h.2▸QB _ _⟩)
  (fun W _=>(all_nil_24 33 none 0 W).mono fun e w' h=>⟨h.1,h.2▸QB _ _⟩)
  (fun W _=>(all_nil_26 35 none 0 W).mono fun e w' h=>⟨h.1,h.2▸QB _ _⟩)
  (fun W _=>(all_nil_28 37 none 0 W).mono fun e w' h=>⟨h.1,h.2▸QB _ _⟩)
  (fun W _=>(all_nil_30 39 none 0 W).mono fun e w' h=>⟨h.1,h.2▸QB _ _⟩)
  (fun W _=>(all_nil_32 41 none 0 W).mono fun e w' h=>⟨h.1,h.2▸QB _ _⟩)
  (fun W _=>(all_nil_34 43 none 0 W).mono fun e w' h=>⟨h.1,h.2▸QB _ _⟩)
  (fun W=>isStart_says 0 W)
  (fun W _=>(all_nil_37 46 none 0 W).mono fun e w' h=>⟨h.1,h.2▸QB _ _⟩)
  (fun W _=>(all_nil_39 48 none 0 W).mono fun e w' h=>⟨h.1,h.2▸QB _ _⟩)
  (fun W _=>(all_nil_26 49 none 0 W).mono fun e w' h=>⟨h.1,h.2▸QB _ _⟩)
 simpa using key
def EMp (gm gb:Nat) (w:World):Prop:=CA gm #[V none 0 0,V none 0 0,V none 0 0,V none 0 0,V none 0 0,V none 0 0,V none 0 0,I J 0,V none 0 0,V none 0 0,G false] 32 w∧CA (gb+1) #[V (some ⟨gb,0,none⟩) 8 8] 137 w∧CA (gb+1+1) #[Qp (some ⟨gb+1,0,none⟩)] 135 w∧BytesAt (gb+1) w (V (some ⟨gb,0,none⟩) 8 8) [0,97,115,109,1,0,0,0]
theorem EMp.call {gm gb:Nat} {w w':World} (h:EMp gm gb w) (hb:Below w.heap.size w w'):EMp gm gb w' :=
 ⟨h.1.below hb h.1.lt,h.2.1.below hb h.2.1.lt,h.2.2.1.below hb h.2.2.1.lt,h.2.2.2.below (hb.mono (Qo h.2.1.lt))⟩
theorem Module_empty (w:World):Calls QP 23 #[.agg #[V none 0 0,V none 0 0,V none 0 0,V none 0 0,V none 0 0,V none 0 0,V none 0 0,I J 0,V none 0 0,V none 0 0,G false]] w fun e w'=>∃b,e=Qr (.tuple #[V (some ⟨b,0,none⟩) 8 8,I J 0])∧BytesAt w'.heap.size w' (V (some ⟨b,0,none⟩) 8 8) [0,97,115,109,1,0,0,0]∧Below w.heap.size w w':=by
 have hmf:∀(fn:Fn) (first cap:Array Value) (w:World),(Instr.makeFunc fn first cap).run QP w=.ok (.func fn first cap) w:=fun _ _ _ _=>rfl
 have hcv:=fun (w:World) (C:Array Value) (n c:Nat)=>Lib.run_convert_bytes_const (P:=QP) w 52 5 C n c Tryz.underlying52 Tryz.underlying5
 have HM:=fun W=>hid (May_empty W)
 have HX0:=hid (CA.new w #[V none 0 0,V none 0 0,V none 0 0,V none 0 0,V none 0 0,V none 0 0,V none 0 0,I J 0,V none 0 0,V none 0 0,G false] 32)
 have HBX:=hid ((QB w.heap.size w).alloc (Ql _) (Qc #[V none 0 0,V none 0 0,V none 0 0,V none 0 0,V none 0 0,V none 0 0,V none 0 0,I J 0,V none 0 0,V none 0 0,G false] 32))
 obtain ⟨m0,m1,m2,m3,m4,m5,m6,m7,m8,m9,m10⟩:=ca11 HX0.out
 go_enter Tryz.func23,Tryz.ntmps23
 go_upto_region 4 with (go_at_call 15;(with_reducible refine (HM _).out.mono ?_);rintro e w0 ⟨rfl,hb⟩;have HX1:=Qe HX0 hb;have HBY:=Qd HBX hb;clear hb)
 clear m0 m1 m2 m3 m4 m5 m6 m7 m8 m9 m10
 have hS:EMp w.heap.size w0.heap.size (((w0.alloc (Qc #[.int .u8 0,.int .u8 97,.int .u8 115,.int .u8 109,.int .u8 1,.int .u8 0,.int .u8 0,.int .u8 0] 5 (8,9))).alloc (Qc #[V (some ⟨w0.heap.size,0,none⟩) 8 8] 137)).alloc (Qc #[Qp (some ⟨w0.heap.size+1,0,none⟩)] 135)):=by
  refine ⟨((HX1.out.alloc _).alloc _).alloc _,?_,?_,?_⟩
  ·have:=CA.new (w0.alloc (Qc #[.int .u8 0,.int .u8 97,.int .u8 115,.int .u8 109,.int .u8 1,.int .u8 0,.int .u8 0,.int .u8 0] 5 (8,9))) #[V (some ⟨w0.heap.size,0,none⟩) 8 8] 137
   rw[size_al]at this
   exact this.alloc _
  ·have:=CA.new ((w0.alloc (Qc #[.int .u8 0,.int .u8 97,.int .u8 115,.int .u8 109,.int .u8 1,.int .u8 0,.int .u8 0,.int .u8 0] 5 (8,9))).alloc (Qc #[V (some ⟨w0.heap.size,0,none⟩) 8 8] 137)) #[Qp (some ⟨w0.heap.size+1,0,none⟩)] 135
   rw[size_al,size_al]at this
   exact this
  have:=bytes_lit (w:=w0) [0,97,115,109,1,0,0,0] #[.int .u8 0,.int .u8 97,.int .u8 115,.int .u8 109,.int .u8 1,.int .u8 0,.int .u8 0,.int .u8 0] (8,9) rfl 8 rfl (by decide)
  exact this.below ((((QB _ _).alloc (by rw[size_al];omega) _)).alloc (by simp only[size_al];omega) _)
 have hB:Below w.heap.size w (((w0.alloc (Qc #[.int .u8 0,.int .u8 97,.int .u8 115,.int .u8 109,.int .u8 1,.int .u8 0,.int .u8 0,.int .u8 0] 5 (8,9))).alloc (Qc #[V (some ⟨w0.heap.size,0,none⟩) 8 8] 137)).alloc (Qc #[Qp (some ⟨w0.heap.size+1,0,none⟩)] 135)) :=
  ((HBY.out.alloc HBY.out.size _).alloc (by rw[size_al];have:=HBY.out.size;omega) _).alloc (by rw[size_al,size_al];have:=HBY.out.size;omega) _
 have HS0:=hid hS
 have HB0:=hid hB
 clear hS hB HX1 HBY
 generalize ((w0.alloc (Qc #[.int .u8 0,.int .u8 97,.int .u8 115,.int .u8 109,.int .u8 1,.int .u8 0,.int .u8 0,.int .u8 0] 5 (8,9))).alloc (Qc #[V (some ⟨w0.heap.size,0,none⟩) 8 8] 137)).alloc (Qc #[Qp (some ⟨w0.heap.size+1,0,none⟩)] 135)=W0 at *
 generalize w0.heap.size=gb at *
 obtain ⟨m0,m1,m2,m3,m4,m5,m6,m7,m8,m9,m10⟩:=ca11 HS0.out.1
 have pv:=HS0.out.2.2.1.at (k:=0) (v:=Qp (some ⟨gb+1,0,none⟩)) rfl
 have wv:=HS0.out.2.1.at (k:=0) (v:=V (some ⟨gb,0,none⟩) 8 8) rfl
 go_wp2_with (first
  |(go_at_call 97;(with_reducible refine (sec_nil_97 _ _ 98 _ _).mono ?_);rintro e w1 ⟨rfl,hb⟩;have HS1:=hid (HS0.out.call hb);have HB1:=Qd HB0 hb;clear m0 m1 m2 m3 m4 m5 m6 m7 m8 m9 m10 pv wv;obtain ⟨m0,m1,m2,m3,m4,m5,m6,m7,m8,m9,m10⟩:=ca11 HS1.out.1;have pv:=HS1.out.2.2.1.at (k:=0) (v:=Qp (some ⟨gb+1,0,none⟩)) rfl;have wv:=HS1.out.2.1.at (k:=0) (v:=V (some ⟨gb,0,none⟩) 8 8) rfl;clear hb)
  |(go_at_call 100;(with_reducible refine (sec_nil_100 _ _ 101 _ _).mono ?_);rintro e w2 ⟨rfl,hb⟩;have HS2:=hid (HS1.out.call hb);have HB2:=Qd HB1 hb;clear m0 m1 m2 m3 m4 m5 m6 m7 m8 m9 m10 pv wv;obtain ⟨m0,m1,m2,m3,m4,m5,m6,m7,m8,m9,m10⟩:=ca11 HS2.out.1;have pv:=HS2.out.2.2.1.at (k:=0) (v:=Qp (some ⟨gb+1,0,none⟩)) rfl;have wv:=HS2.out.2.1.at (k:=0) (v:=V (some ⟨gb,0,none⟩) 8 8) rfl;clear hb)
  |(go_at_call 103;(with_reducible refine (sec_nil_103 _ _ 104 _ _).mono ?_);rintro e w3 ⟨rfl,hb⟩;have HS3:=hid (HS2.out.call hb);have HB3:=Qd HB2 hb;clear m0 m1 m2 m3 m4 m5 m6 m7 m8 m9 m10 pv wv;obtain ⟨m0,m1,m2,m3,m4,m5,m6,m7,m8,m9,m10⟩:=ca11 HS3.out.1;have pv:=HS3.out.2.2.1.at (k:=0) (v:=Qp (some ⟨gb+1,0,none⟩)) rfl;have wv:=HS3.out.2.1.at (k:=0) (v:=V (some ⟨gb,0,none⟩) 8 8) rfl;clear hb)
  |(go_at_call 106;(with_reducible refine (sec_nil_106 _ _ 107 _ _).mono ?_);rintro e w4 ⟨rfl,hb⟩;have HS4:=hid (HS3.out.call hb);have HB4:=Qd HB3 hb;clear m0 m1 m2 m3 m4 m5 m6 m7 m8 m9 m10 pv wv;obtain ⟨m0,m1,m2,m3,m4,m5,m6,m7,m8,m9,m10⟩:=ca11 HS4.out.1;have pv:=HS4.out.2.2.1.at (k:=0) (v:=Qp (some ⟨gb+1,0,none⟩)) rfl;have wv:=HS4.out.2.1.at (k:=0) (v:=V (some ⟨gb,0,none⟩) 8 8) rfl;clear hb)
  |(go_at_call 109;(with_reducible refine (sec_nil_109 _ _ 110 _ _).mono ?_);rintro e w5 ⟨rfl,hb⟩;have HS5:=hid (HS4.out.call hb);have HB5:=Qd HB4 hb;clear m0 m1 m2 m3 m4 m5 m6 m7 m8 m9 m10 pv wv;obtain ⟨m0,m1,m2,m3,m4,m5,m6,m7,m8,m9,m10⟩:=ca11 HS5.out.1;have pv:=HS5.out.2.2.1.at (k:=0) (v:=Qp (some ⟨gb+1,0,none⟩)) rfl;have wv:=HS5.out.2.1.at (k:=0) (v:=V (some ⟨gb,0,none⟩) 8 8) rfl;clear hb)
  |(go_at_call 112;(with_reducible refine (sec_nil_112 _ _ 113 _ _).mono ?_);rintro e w6 ⟨rfl,hb⟩;have HS6:=hid (HS5.out.call hb);have HB6:=Qd HB5 hb;clear m0 m1 m2 m3 m4 m5 m6 m7 m8 m9 m10 pv wv;obtain ⟨m0,m1,m2,m3,m4,m5,m6,m7,m8,m9,m10⟩:=ca11 HS6.out.1;have pv:=HS6.out.2.2.1.at (k:=0) (v:=Qp (some ⟨gb+1,0,none⟩)) rfl;have wv:=HS6.out.2.1.at (k:=0) (v:=V (some ⟨gb,0,none⟩) 8 8) rfl;clear hb)
  |(go_at_call 115;(with_reducible refine (sec_nil_115 _ _ 116 _ _).mono ?_);rintro e w7 ⟨rfl,hb⟩;have HS7:=hid (HS6.out.call hb);have HB7:=Qd HB6 hb;clear m0 m1 m2 m3 m4 m5 m6 m7 m8 m9 m10 pv wv;obtain ⟨m0,m1,m2,m3,m4,m5,m6,m7,m8,m9,m10⟩:=ca11 HS7.out.1;have pv:=HS7.out.2.2.1.at (k:=0) (v:=Qp (some ⟨gb+1,0,none⟩)) rfl;have wv:=HS7.out.2.1.at (k:=0) (v:=V (some ⟨gb,0,none⟩) 8 8) rfl;clear hb)
  |(go_at_call 120;(with_reducible refine (sec_nil_120 _ _ 121 _ _).mono ?_);rintro e w8 ⟨rfl,hb⟩;have HS8:=hid (HS7.out.call hb);have HB8:=Qd HB7 hb;clear m0 m1 m2 m3 m4 m5 m6 m7 m8 m9 m10 pv wv;obtain ⟨m0,m1,m2,m3,m4,m5,m6,m7,m8,m9,m10⟩:=ca11 HS8.out.1;have pv:=HS8.out.2.2.1.at (k:=0) (v:=Qp (some ⟨gb+1,0,none⟩)) rfl;have wv:=HS8.out.2.1.at (k:=0) (v:=V (some ⟨gb,0,none⟩) 8 8) rfl;clear hb)
  |(go_at_call 103;(with_reducible refine (sec_nil_103 _ _ 124 _ _).mono ?_);rintro e w9 ⟨rfl,hb⟩;have HS9:=hid (HS8.out.call hb);have HB9:=Qd HB8 hb;clear m0 m1 m2 m3 m4 m5 m6 m7 m8 m9 m10 pv wv;obtain ⟨m0,m1,m2,m3,m4,m5,m6,m7,m8,m9,m10⟩:=ca11 HS9.out.1;have pv:=HS9.out.2.2.1.at (k:=0) (v:=Qp (some ⟨gb+1,0,none⟩)) rfl;have wv:=HS9.out.2.1.at (k:=0) (v:=V (some ⟨gb,0,none⟩) 8 8) rfl;clear hb)
  |(go_at_call 126;(with_reducible refine (sec_nil_126 _ _ 127 _ _).mono ?_);rintro e w10 ⟨rfl,hb⟩;have HS10:=hid (HS9.out.call hb);have HB10:=Qd HB9 hb;clear m0 m1 m2 m3 m4 m5 m6 m7 m8 m9 m10 pv wv;obtain ⟨m0,m1,m2,m3,m4,m5,m6,m7,m8,m9,m10⟩:=ca11 HS10.out.1;have pv:=HS10.out.2.2.1.at (k:=0) (v:=Qp (some ⟨gb+1,0,none⟩)) rfl;have wv:=HS10.out.2.1.at (k:=0) (v:=V (some ⟨gb,0,none⟩) 8 8) rfl;clear hb))
 go_ret2
 exact ⟨gb,rfl,HS10.out.2.2.2.mono (Qo HS10.out.2.1.lt),HB10.out⟩
theorem cell_far {W:World} {c o g k:Nat} {v:Value} (h:c≠g):(W.setCell ⟨c,o,none⟩ v).cell? ⟨g,k,none⟩=W.cell? ⟨g,k,none⟩:=by
 unfold World.cell? World.setCell
 simp[Array.getElem?_modify,h]
abbrev T3:=Option Addr × Nat × Nat
def n3:T3:=(none,0,0)
def InsAt (W:World) (r:Nat) (op:Int) (vb:Value):Prop :=
 W.cell? ⟨r,0,none⟩=some (I J op)∧W.cell? ⟨r,1,none⟩=some (I J 0)∧W.cell? ⟨r,2,none⟩=some (I J 0)∧W.cell? ⟨r,3,none⟩=some (I O 0)∧W.cell? ⟨r,4,none⟩=some (I O 0) ∧
 W.cell? ⟨r,5,none⟩=some (V none 0 0)∧W.cell? ⟨r,6,none⟩=some vb∧W.cell? ⟨r,7,none⟩=some (V none 0 0)∧W.cell? ⟨r,8,none⟩=some (G false)
theorem InsAt.far {W:World} {r g j:Nat} {op:Int} {vb v:Value} (h:InsAt W r op vb) (hne:g≠r):InsAt (W.setCell ⟨g,j,none⟩ v) r op vb:=by
 unfold InsAt at h ⊢
 simp only[cell_far hne]
 exact h
theorem InsAt.below {W W':World} {r B:Nat} {op:Int} {vb:Value} (h:InsAt W r op vb) (hb:Below B W W') (hr:r<B):InsAt W' r op vb:=by
 have hc:∀k,W'.cell? ⟨r,k,none⟩=W.cell? ⟨r,k,none⟩:=fun k=>hb.cell (p:=⟨r,k,none⟩) hr
 unfold InsAt at h ⊢
 simp only[hc]
 exact h
def XB (s r:Nat) (W:World):Prop:=∃r',s≤r∧s≤r'∧r<W.heap.size∧r'<W.heap.size∧InsAt W r 2 (V (some ⟨r',0,none⟩) 1 1)∧InsAt W r' 1 (V none 0 0)
def insFo (op:Int) (body:Fo):Fo:=.cons op 0 0 0 0 [] false body .nil .nil
theorem SA_ins {B r c:Nat} {w:World} {op:Int} {vb:Value} {body:Fo} (h:InsAt w r op vb) (hr:r<B) (hb:SA B w vb body):SA B w (V (some ⟨r,0,none⟩) 1 c) (insFo op body):=by
 obtain ⟨h0,h1,h2,h3,h4,h5,h6,h7,h8⟩:=h
 refine ⟨some ⟨r,0,none⟩,c,r,0,rfl,fun _=>rfl,hr,⟨V none 0 0,vb,V none 0 0,h0,h1,h2,h3,h4,h5,h6,h7,h8,LI.nil _ _ _ _,?_,?_⟩,trivial⟩
 ·obtain ⟨p,c',g',o',e,e2,e3⟩:=hb
  exact ⟨p,c',g',o',e,e2,e3⟩
 exact ⟨none,0,0,0,rfl,fun h=>absurd rfl h,trivial⟩
structure Ex (w:World) (gt gf gb:Nat) (l:List Int) (p:Option Addr) (n c:Nat) (f:Fo):Prop where
 t:gt<w.heap.size
 fn:gf<w.heap.size
 n1:n=l.length
 t0:w.cell? ⟨gt,0,none⟩=some (V p n c)
 t1:w.cell? ⟨gt,1,none⟩=some (V none 0 0)
 l0:LI w.heap.size w (V p n c) l
 f0:w.cell? ⟨gf,0,none⟩=some (I J 0)
 f1:w.cell? ⟨gf,1,none⟩=some (V none 0 0)
 f2:w.cell? ⟨gf,2,none⟩=some (V (some ⟨gb,0,none⟩) 1 1)
 s:SA w.heap.size w (V (some ⟨gb,0,none⟩) 1 1) f
theorem Ex.below {w W:World} {gt gf gb:Nat} {l:List Int} {p:Option Addr} {n c:Nat} {f:Fo} (h:Ex w gt gf gb l p n c f) (hb:Below w.heap.size w W):Ex W gt gf gb l p n c f where
 t:=Nat.lt_of_lt_of_le h.t hb.size
 fn:=Nat.lt_of_lt_of_le h.fn hb.size
 n1:=h.n1
 t0:=(hb.cell (p:=⟨gt,0,none⟩) h.t).trans h.t0
 t1:=(hb.cell (p:=⟨gt,1,none⟩) h.t).trans h.t1
 l0:=(h.l0.below hb).mono hb.size
 f0:=(hb.cell (p:=⟨gf,0,none⟩) h.fn).trans h.f0
 f1:=(hb.cell (p:=⟨gf,1,none⟩) h.fn).trans h.f1
 f2:=(hb.cell (p:=⟨gf,2,none⟩) h.fn).trans h.f2
 s:=SA.mono (SA.below h.s hb) hb.size
def exFo:Fo:=.cons 65 0 0 4294967295 0 [] false .nil .nil .nil
theorem ex_code:codeB exFo=true:=by kernel_rfl
theorem ex_line:(lineL 65).2.1=12:=by kernel_rfl
theorem ex_enc:exFo.enc++[11]=[65,127,11]:=by
 have h1:opL 65=[65]:=by unfold opL;rw[if_neg (by decide),if_neg (by decide)];rfl
 have h2:sgnN 32 4294967295=-1:=by decide
 have h3:slist (-1)=[127]:=by rw[slist_small (by decide)];rfl
 simp only[exFo,Fo.enc,ex_line,behL,h1,h2,h3]
 rfl
theorem ex_ok:okE exFo:=by
 refine ⟨⟨by decide,by decide,by decide,by decide,⟨by decide,by decide⟩,fun h=>?_⟩,trivial,trivial,trivial⟩
 exact .inl rfl
theorem no_code:codeB (insFo 6 .nil)=false:=by kernel_rfl
theorem ex_call (W:World):Calls QP 25 #[V (some ⟨W.heap.size,0,none⟩) 1 1] (W.alloc (Qc #[I J 65,I J 0,I J 0,I O 4294967295,I O 0,V none 0 0,V none 0 0,V none 0 0,G false] 39))
  fun e w'=>∃p n c,e=Qr (.tuple #[V p n c,I J 0])∧BytesAt w'.heap.size w' (V p n c) [65,127,11]∧Below W.heap.size W w':=by
 have hc:=CA.new W #[I J 65,I J 0,I J 0,I O 4294967295,I O 0,V none 0 0,V none 0 0,V none 0 0,G false] 39
 have hs:SA (W.alloc (Qc #[I J 65,I J 0,I J 0,I O 4294967295,I O 0,V none 0 0,V none 0 0,V none 0 0,G false] 39)).heap.size (W.alloc (Qc #[I J 65,I J 0,I J 0,I O 4294967295,I O 0,V none 0 0,V none 0 0,V none 0 0,G false] 39)) (V (some ⟨W.heap.size,0,none⟩) 1 1) exFo :=
  ⟨some ⟨W.heap.size,0,none⟩,1,W.heap.size,0,rfl,fun _=>rfl,hc.lt,⟨V none 0 0,V none 0 0,V none 0 0,hc.at rfl,hc.at rfl,hc.at rfl,hc.at rfl,hc.at rfl,hc.at rfl,hc.at rfl,hc.at rfl,hc.at rfl,LI.nil _ _ _ _,⟨none,0,0,0,rfl,fun h=>absurd rfl h,trivial⟩,⟨none,0,0,0,rfl,fun h=>absurd rfl h,trivial⟩⟩,trivial⟩
 have hb:=(QB W.heap.size W).alloc (Ql _) (Qc #[I J 65,I J 0,I J 0,I O 4294967295,I O 0,V none 0 0,V none 0 0,V none 0 0,G false] 39)
 refine (encCode_yes exFo (by decide) ex_ok (by decide) _ _ hs ex_code).mono ?_
 rintro e w' ⟨p,n,c,rfl,ho,hb2⟩
 rw[ex_enc]at ho
 obtain ⟨g,cc,hv⟩:=own_at ho (by decide)
 refine ⟨p,n,c,rfl,bytes_of_owned ho (by decide),hb.trans (hb2.mono hb.size)⟩
theorem no_call (W:World):Calls QP 25 #[V (some ⟨W.heap.size,0,none⟩) 1 1] (W.alloc (Qc #[I J 6,I J 0,I J 0,I O 0,I O 0,V none 0 0,V none 0 0,V none 0 0,G false] 39))
  fun e w'=>e=Qr (.tuple #[V none 0 0,I J 1])∧Below W.heap.size W w':=by
 have hc:=CA.new W #[I J 6,I J 0,I J 0,I O 0,I O 0,V none 0 0,V none 0 0,V none 0 0,G false] 39
 have hb:=(QB W.heap.size W).alloc (Ql _) (Qc #[I J 6,I J 0,I J 0,I O 0,I O 0,V none 0 0,V none 0 0,V none 0 0,G false] 39)
 have hs:=SA_ins (c:=1) ⟨hc.at rfl,hc.at rfl,hc.at rfl,hc.at rfl,hc.at rfl,hc.at rfl,hc.at rfl,hc.at rfl,hc.at rfl⟩ hc.lt (SA.nil _ _ none 0)
 refine (encCode_no (insFo 6 .nil) (by decide) _ _ hs no_code).mono ?_
 rintro e w' ⟨rfl,hb2⟩
 exact ⟨rfl,hb.trans (hb2.mono hb.size)⟩
theorem awakeE (w:World):Calls QP 22 #[] w fun e w'=>e=Qr (G true)∧Below w.heap.size w w':=by
 have HM:=fun W=>hid (Module_empty W)
 have HE:=fun W=>hid (ex_call W)
 have HN:=fun W=>hid (no_call W)
 go_enter Tryz.func22,Tryz.ntmps22
 go_upto_region 4 with (first
  |(go_at_call 23;(with_reducible refine (HM _).out.mono ?_);rintro e w1 ⟨b,rfl,hy,hb⟩;have HY1:=hid hy;have HB1:=hid hb;clear hy hb)
  |(go_at_call 25;(with_reducible refine (HE _).out.mono ?_);rintro e w2 ⟨p,n,c,rfl,hy,hb⟩;have HY2:=hid hy;have HB2:=Qd HB1 hb;have HZ2:=hid (HY1.out.below hb);have HSZ:=hid hb.size;clear hy hb)
  |(go_at_call 25;(with_reducible refine (HN _).out.mono ?_);rintro e w3 ⟨rfl,hb⟩;have HB3:=Qd HB2 hb;have HZ3:=hid (HZ2.out.below (hb.mono HSZ.out));have HY3:=hid (HY2.out.below hb);clear hb))
 have c1:=conv_bytes HZ3.out
 have c2:=conv_bytes HY3.out
 go_wp2
 go_ret
 exact ⟨rfl,HB3.out⟩
theorem wg_siz:∀(f:Fo) (d left:Int),0≤wg f d left→f.siz≤20400*f.cnt
 |.nil,_,_,_=>Qz _
 |.cons op a b n hh l ot body els rest,d,left,h=>by
  have h0:0≤left:=by
   rcases Classical.em (0≤left) with h0|h0
   ·exact h0
   rw[wg_neg _ _ _ (by omega)]at h
   omega
  obtain ⟨A,hA⟩:∃A,A=wgT body (d+1) (left-1):=⟨_,rfl⟩
  obtain ⟨E,hE⟩:∃E,E=wgT els (d+1) A:=⟨_,rfl⟩
  rw[wg_cons op a b n hh l ot body els rest d left h0 A hA.symm E hE.symm]at h
  have hr:=wg_siz rest d _ h
  have hge:0≤(if 1000<l.length then -1 else if 0≤A then E else A):=by
   rcases Classical.em (0≤(if 1000<l.length then -1 else if 0≤A then E else A)) with h1|h1
   ·exact h1
   rw[wg_neg _ _ _ (by omega)]at h
   omega
  have hl:¬1000<l.length:=by intro hc;rw[if_pos hc]at hge;omega
  rw[if_neg hl]at hge
  have hA0:0≤A:=by
   rcases Classical.em (0≤A) with h1|h1
   ·exact h1
   rw[if_neg h1]at hge;omega
  rw[if_pos hA0]at hge
  have hb:0≤wg body (d+1) (left-1):=by
   unfold wgT at hA
   split at hA
   ·omega
   omega
  have he:0≤wg els (d+1) A:=by
   unfold wgT at hE
   split at hE
   ·omega
   omega
  have h1:=wg_siz body _ _ hb
  have h2:=wg_siz els _ _ he
  simp only[Fo.siz,Fo.cnt]
  omega
theorem few_siz {f:Fo} (h:0≤wg f 0 3000):f.siz≤61200000:=by
 have h1:=wg_siz f 0 3000 h
 have h2:=few_cnt f h
 have:20400*f.cnt≤20400*3000:=Nat.mul_le_mul_left _ h2
 omega
theorem place_ok {m t top:Int} {f:Fo} (h:placeB m t (codeB f) f.len top=true) (hr:RN f):okE f∧0≤m∧m≤top∨m=0∧okE f:=by
 unfold placeB at h
 split at h
 ·rename_i h0
  simp only[Bool.and_eq_true]at h
  exact .inr ⟨h0,okE_code f h.2 hr⟩
 simp only[Bool.and_eq_true,decide_eq_true_eq,beq_iff_eq]at h
 obtain ⟨⟨h1,h2⟩,_,h3⟩:=h
 have:f=.nil:=by
  match f,h3 with
  |.nil,_=>rfl
  |.cons _ _ _ _ _ _ _ _ _ _,h3=>simp only[Fo.len]at h3;omega
 subst this
 exact .inl ⟨trivial,by omega,h2⟩
structure MayF (M:MD):Prop where
 im:∀i,i<M.imn→kindB (M.im i).kd=true
 f:∀i,i<M.fn→okE (M.f i).f
 g:∀i,i<M.gn→okE (M.g i).f
 e:∀i,i<M.en→okE (M.e i).f∧0≤(M.e i).m∧(M.e i).m≤2
 ek:∀i,i<M.en→∀k,k<(M.e i).ng→okE ((M.e i).g k)
 d:∀i,i<M.dn→okE (M.d i).f∧0≤(M.d i).m∧(M.d i).m≤1
theorem may_f {M:MD} {B:Nat} {w:World} (h:M.ok B w) (hm:mayP M=true):MayF M:=by
 unfold mayP at hm
 simp only[Bool.and_eq_true,List.all_eq_true,List.mem_range]at hm
 obtain ⟨⟨⟨⟨⟨⟨⟨⟨⟨⟨h1,h2⟩,h3⟩,h4⟩,h5⟩,h6⟩,h7⟩,h8⟩,h9⟩,h10⟩,h11⟩:=hm
 refine ⟨fun i hi=>?_,fun i hi=>?_,fun i hi=>?_,fun i hi=>?_,fun i hi k hk=>?_,fun i hi=>?_⟩
 ·have:=h2 i hi
  unfold miP impP at this
  unfold kindB
  by_cases a0:(M.im i).kd=0
  ·simp[a0]
  by_cases a1:(M.im i).kd=1
  ·simp[a1]
  by_cases a2:(M.im i).kd=2
  ·simp[a2]
  by_cases a3:(M.im i).kd=3
  ·simp[a3]
  simp[a0,a1,a2,a3]at this
 ·have:=h3 i hi
  unfold mfP at this
  simp only[Bool.and_eq_true]at this
  exact okE_code _ this.2 (h.fz i hi).h2.2.2.2
 ·have:=h6 i hi
  unfold mgP at this
  simp only[Bool.and_eq_true]at this
  exact okE_code _ this.2 (h.gz i hi).h1.2.2.2
 ·have:=h9 i hi
  unfold meP at this
  simp only[Bool.and_eq_true]at this
  rcases place_ok this.2 (h.ez i hi).h3.2.2.2 with ⟨a,b,c⟩|⟨a,b⟩
  ·exact ⟨a,b,c⟩
  exact ⟨b,by omega,by omega⟩
 ·have:=h9 i hi
  unfold meP at this
  simp only[Bool.and_eq_true,List.all_eq_true,List.mem_range]at this
  exact okE_code _ (this.1.2 k hk) ((h.ez i hi).h4.2 k hk).2.2.2
 have:=h10 i hi
 unfold mdP at this
 rcases place_ok this (h.dz i hi).h2.2.2.2 with ⟨a,b,c⟩|⟨a,b⟩
 ·exact ⟨a,b,c⟩
 exact ⟨b,by omega,by omega⟩
theorem flB_small {n:Nat} {P:Nat→List UInt8} {k:Nat} (hn:n≤100) (h:∀i,i<n→(P i).length≤k) (hk:k≤10000000000):(flB n P).length≤1000000000000:=by
 have h1:=flB_bound P k n h
 have h2:n*k≤100*k:=Nat.mul_le_mul_right _ hn
 omega
theorem elem_says (B g L:Nat) (bs:List UInt8) (e:EElm) (w:World) (hL:L≤lo B g) (hk:e.ok L w) (h0:0≤wg e.f 0 3000) (hok:okE e.f) (hg:Goods e.ng e.g) (hm:0≤e.m∧e.m≤2) (hw:WR B g bs w) (hn:bs.length≤3000000000000) :
  Calls QP 122 #[Qp (some ⟨g,0,none⟩),.agg #[I J e.r,I J e.m,I J e.t,V e.pf e.f.len e.cf,V e.pg e.ng e.cg]] w fun x w'=>x=Qr (.tuple #[])∧WR B g (bs++meL e) w'∧FR B g w w':=by
 have hct:=few_lt h0
 have hsz:=few_siz h0
 have hs:=hk.h3.1
 have hko:=hk.h4
 rcases e with ⟨r,m,t,f,pf,cf,ng,pg,cg,bg,og,gf,qg,dg⟩
 dsimp only at *
 have hm':m=0∨m=1∨m=2:=by omega
 obtain ⟨fu,hb⟩:∃b,funsB ⟨r,m,t,f,pf,cf,ng,pg,cg,bg,og,gf,qg,dg⟩=b:=⟨_,rfl⟩
 have hfs:((List.range ng).all (fun k=>isFun (gf k))&&((r:Int)==112))=fu:=hb
 have h:=elem_any B g L bs r m t f pf pg cf cg ng bg og gf qg dg w fu hm' hL hct hok hsz hs hg hko hfs hw hn
 have e9:meL ⟨r,m,t,f,pf,cf,ng,pg,cg,bg,og,gf,qg,dg⟩=preE (fmB fu) (kdB fu r) r m t f++(uI ng++flB ng (fun k=>iniL fu (gf k))):=by
  have c0:byI 0=0:=rfl
  have c1:byI 1=1:=rfl
  have c2:byI 2=2:=rfl
  have c3:byI 3=3:=rfl
  have c4:byI 4=4:=rfl
  have c5:byI 5=5:=rfl
  have c6:byI 6=6:=rfl
  have c7:byI 7=7:=rfl
  unfold meL
  rw[hb]
  by_cases htr:t=0∧r=112<;>rcases hm' with rfl|rfl|rfl<;>cases fu<;>simp[preE,fmB,kdB,codL,htr,c0,c1,c2,c3,c4,c5,c6,c7]
 rw[e9]
 exact h
theorem data_says (B g L:Nat) (bs:List UInt8) (e:EDat) (w:World) (hL:L≤lo B g) (hk:e.ok L w) (h0:0≤wg e.f 0 3000) (hok:okE e.f) (hl:e.b.length≤100000) (hw:WR B g bs w) (hn:bs.length≤3000000000000) :
  Calls QP 128 #[Qp (some ⟨g,0,none⟩),.agg #[I J e.m,I J e.t,V e.pf e.f.len e.cf,V e.pb e.b.length e.cb]] w fun x w'=>x=Qr (.tuple #[])∧WR B g (bs++mdL e) w'∧FR B g w w':=by
 have hct:=few_lt h0
 have hsz:=few_siz h0
 have hs:=hk.h2.1
 have hy:=hk.h3
 rcases e with ⟨m,t,f,pf,cf,b,pb,cb⟩
 dsimp only at *
 by_cases hm:m=1
 ·subst hm
  have:=data_P B g L bs t f pf pb cf cb b w hL hct hok hsz hs hl hy hw hn
  simpa[mdL,codL,show byI 1=1 from rfl]using this
 by_cases ht:t=0
 ·subst ht
  have:=data_Z B g L bs m f pf pb cf cb b w hm hL hct hok hsz hs hl hy hw hn
  simpa[mdL,codL,hm,show byI 0=0 from rfl]using this
 have:=data_T B g L bs m t f pf pb cf cb b w hm ht hL hct hok hsz hs hl hy hw hn
 simpa[mdL,codL,hm,ht,show byI 2=2 from rfl]using this
theorem lsL_len (l:List Int) (h:l.length≤1000):(lsL l).length≤1010:=by
 have:=uI_len l.length
 unfold lsL
 simp only[QA,List.length_map]
 omega
theorem mtL_len (e:ETyp) (h1:e.a.length≤1000) (h2:e.b.length≤1000):(mtL e).length≤3000:=by
 have:=lsL_len e.a h1
 have:=lsL_len e.b h2
 unfold mtL
 simp only[QC,QA]
 omega
theorem miL_len (e:EImp) (h1:e.s0.size≤1000) (h2:e.s1.size≤1000):(miL e).length≤3000:=by
 have:=strL_len e.s0
 have:=strL_len e.s1
 have:=uI_len e.ty
 have:=limL_len e.tmn e.tmx e.th
 have:=limL_len e.mmn e.mmx e.mh
 unfold miL tabL gloL
 simp only[QA,QC]
 split
 ·omega
 split
 ·simp only[QC];omega
 split
 ·omega
 simp only[QC,QN];omega
theorem meL_len (e:EElm) (h0:0≤wg e.f 0 3000) (hok:okE e.f) (hg:Goods e.ng e.g):(meL e).length≤7000000000:=by
 have h1:=codL_len e.f hok (few_siz h0)
 have h2:=inis_len hg (funsB e)
 have h3:=uI_len e.t
 have h4:=uI_len e.ng
 unfold meL
 simp only[QA]
 split
 ·split<;>simp only[QC,QA,QN]<;>omega
 split<;>simp only[QC,QA,QN]<;>omega
theorem mdL_len (e:EDat) (h0:0≤wg e.f 0 3000) (hok:okE e.f) (hl:e.b.length≤100000):(mdL e).length≤7000000000:=by
 have h1:=codL_len e.f hok (few_siz h0)
 have h3:=uI_len e.t
 have h4:=uI_len e.b.length
 unfold mdL szL
 simp only[QA]
 split
 ·simp only[QC,QN];omega
 split<;>simp only[QC,QA,QN]<;>omega
theorem secM_t (B g bw L:Nat) (M:MD) (W:World) (hL:L≤lo B g) (hf:FitM M) (hmf:MayF M) (hM:M.ok L W) (hbw:CA bw #[Qp (some ⟨g,0,none⟩)] 135 W) (hbg:bw≠g) (bs:List UInt8) (hw:WR0 B g bs W) (hn:bs.length≤90000000000000) :
  Calls QP 97 #[Qp (some ⟨g,0,none⟩),I J 1,V M.tp M.tn M.tc,.func (.func 98) #[] #[Qp (some ⟨bw,0,none⟩)]] W fun e w'=>e=Qr (.tuple #[])∧WR0 B g (bs++secL 1 M.tn (flB M.tn fun i=>mtL (M.t i))) w'∧FR B g W w':=by
 have hX:(flB M.tn fun i=>mtL (M.t i)).length≤1000000000000:=flB_small (k:=3000) hf.tn (fun i hi=>mtL_len _ (hf.t i hi).1 (hf.t i hi).2) (by decide)
 refine sec_Typ B g bw 98 L (fun _ _=>rfl) 1 _ M.tp M.tn M.tc M.tg M.tw M.t W hL hM.tr ?_ hX bs hw hn
 intro B' i hi hBB bs' W' hF hW hl
 have k:=((((hM.below ((hF.belowL hw.base).mono hL))).tz i hi))
 exact mc_Typ B' g bw bs' (M.t i).a (M.t i).b (M.t i).pa (M.t i).pb (M.t i).ca (M.t i).cb L W' (le_lo (Qk hL (Qk (lo_B B g) hBB)) (Qk hL (lo_g B g))) k.h0.1 k.h1.1 (hf.t i hi).1 (hf.t i hi).2 hbg (hbw.fr hF (by decide) hbg) hW hl
theorem secM_im (B g bw L:Nat) (M:MD) (W:World) (hL:L≤lo B g) (hf:FitM M) (hmf:MayF M) (hM:M.ok L W) (hbw:CA bw #[Qp (some ⟨g,0,none⟩)] 135 W) (hbg:bw≠g) (bs:List UInt8) (hw:WR0 B g bs W) (hn:bs.length≤90000000000000) :
  Calls QP 100 #[Qp (some ⟨g,0,none⟩),I J 2,V M.imp M.imn M.imc,.func (.func 101) #[] #[Qp (some ⟨bw,0,none⟩)]] W fun e w'=>e=Qr (.tuple #[])∧WR0 B g (bs++secL 2 M.imn (flB M.imn fun i=>miL (M.im i))) w'∧FR B g W w':=by
 have hX:(flB M.imn fun i=>miL (M.im i)).length≤1000000000000:=flB_small (k:=3000) hf.imn (fun i hi=>miL_len _ (hf.im i hi).1 (hf.im i hi).2) (by decide)
 refine sec_Imp B g bw 101 L (fun _ _=>rfl) 2 _ M.imp M.imn M.imc M.img M.imw M.im W hL hM.imr ?_ hX bs hw hn
 intro B' i hi hBB bs' W' hF hW hl
 exact mc_Imp B' g bw bs' (M.im i).s0 (M.im i).s1 (M.im i).kd (M.im i).ty (M.im i).tr (M.im i).tmn (M.im i).tmx (M.im i).th (M.im i).mmn (M.im i).mmx (M.im i).mh (M.im i).gt (M.im i).gm W' (hmf.im i hi) (hf.im i hi).1 (hf.im i hi).2 hbg (hbw.fr hF (by decide) hbg) hW hl
theorem secM_fT (B g bw L:Nat) (M:MD) (W:World) (hL:L≤lo B g) (hf:FitM M) (hmf:MayF M) (hM:M.ok L W) (hbw:CA bw #[Qp (some ⟨g,0,none⟩)] 135 W) (hbg:bw≠g) (bs:List UInt8) (hw:WR0 B g bs W) (hn:bs.length≤90000000000000) :
  Calls QP 103 #[Qp (some ⟨g,0,none⟩),I J 3,V M.fp M.fn M.fc,.func (.func 104) #[] #[Qp (some ⟨bw,0,none⟩)]] W fun e w'=>e=Qr (.tuple #[])∧WR0 B g (bs++secL 3 M.fn (flB M.fn fun i=>uI (M.f i).ty)) w'∧FR B g W w':=by
 have hX:(flB M.fn fun i=>uI (M.f i).ty).length≤1000000000000:=flB_small (k:=10) (Qk hf.fn (by decide)) (fun i hi=>uI_len _) (by decide)
 refine sec_Fun B g bw 104 L (fun _ _=>rfl) 3 _ M.fp M.fn M.fc M.fg M.fw M.f W hL hM.fr ?_ hX bs hw hn
 intro B' i hi hBB bs' W' hF hW hl
 exact mc_FunT B' g bw bs' (M.f i).ty (M.f i).pl (M.f i).pf (M.f i).l.length (M.f i).cl (M.f i).f.len (M.f i).cf W' hbg (hbw.fr hF (by decide) hbg) hW hl
theorem secM_tb (B g bw L:Nat) (M:MD) (W:World) (hL:L≤lo B g) (hf:FitM M) (hmf:MayF M) (hM:M.ok L W) (hbw:CA bw #[Qp (some ⟨g,0,none⟩)] 135 W) (hbg:bw≠g) (bs:List UInt8) (hw:WR0 B g bs W) (hn:bs.length≤90000000000000) :
  Calls QP 106 #[Qp (some ⟨g,0,none⟩),I J 4,V M.tbp M.tbn M.tbc,.func (.func 107) #[] #[Qp (some ⟨bw,0,none⟩)]] W fun e w'=>e=Qr (.tuple #[])∧WR0 B g (bs++secL 4 M.tbn (flB M.tbn fun i=>mbL (M.tb i))) w'∧FR B g W w':=by
 have hX:(flB M.tbn fun i=>mbL (M.tb i)).length≤1000000000000:=flB_small (k:=30) hf.tbn (fun i hi=>(by have:=limL_len (M.tb i).mn (M.tb i).mx (M.tb i).h;simp only[mbL,tabL,QC];omega)) (by decide)
 refine sec_Tab B g bw 107 L (fun _ _=>rfl) 4 _ M.tbp M.tbn M.tbc M.tbg M.tbw M.tb W hL hM.tbr ?_ hX bs hw hn
 intro B' i hi hBB bs' W' hF hW hl
 exact mc_Tab B' g bw bs' (M.tb i).r (M.tb i).mn (M.tb i).mx (M.tb i).h W' hbg (hbw.fr hF (by decide) hbg) hW hl
theorem secM_m (B g bw L:Nat) (M:MD) (W:World) (hL:L≤lo B g) (hf:FitM M) (hmf:MayF M) (hM:M.ok L W) (hbw:CA bw #[Qp (some ⟨g,0,none⟩)] 135 W) (hbg:bw≠g) (bs:List UInt8) (hw:WR0 B g bs W) (hn:bs.length≤90000000000000) :
  Calls QP 109 #[Qp (some ⟨g,0,none⟩),I J 5,V M.mp M.mn M.mc,.func (.func 110) #[] #[Qp (some ⟨bw,0,none⟩)]] W fun e w'=>e=Qr (.tuple #[])∧WR0 B g (bs++secL 5 M.mn (flB M.mn fun i=>mlL (M.m i))) w'∧FR B g W w':=by
 have hX:(flB M.mn fun i=>mlL (M.m i)).length≤1000000000000:=flB_small (k:=30) hf.mn (fun i hi=>(by have:=limL_len (M.m i).mn (M.m i).mx (M.m i).h;simp only[mlL];omega)) (by decide)
 refine sec_Lim B g bw 110 L (fun _ _=>rfl) 5 _ M.mp M.mn M.mc M.mg M.mw M.m W hL hM.mr ?_ hX bs hw hn
 intro B' i hi hBB bs' W' hF hW hl
 exact mc_Lim B' g bw bs' (M.m i).mn (M.m i).mx (M.m i).h W' hbg (hbw.fr hF (by decide) hbg) hW hl
theorem secM_g (B g bw L:Nat) (M:MD) (W:World) (hL:L≤lo B g) (hf:FitM M) (hmf:MayF M) (hM:M.ok L W) (hbw:CA bw #[Qp (some ⟨g,0,none⟩)] 135 W) (hbg:bw≠g) (bs:List UInt8) (hw:WR0 B g bs W) (hn:bs.length≤90000000000000) :
  Calls QP 112 #[Qp (some ⟨g,0,none⟩),I J 6,V M.gp M.gn M.gc,.func (.func 113) #[] #[Qp (some ⟨bw,0,none⟩)]] W fun e w'=>e=Qr (.tuple #[])∧WR0 B g (bs++secL 6 M.gn (flB M.gn fun i=>mgL (M.g i))) w'∧FR B g W w':=by
 have hX:(flB M.gn fun i=>mgL (M.g i)).length≤1000000000000:=flB_small (k:=70000000) (Qk hf.gn (by decide)) (fun i hi=>(by have:=codL_len _ (hmf.g i hi) (few_siz (hf.g i hi));simp only[mgL,gloL,QA,QC,QN];omega)) (by decide)
 refine sec_Glo B g bw 113 L (fun _ _=>rfl) 6 _ M.gp M.gn M.gc M.gg M.gw M.g W hL hM.gr ?_ hX bs hw hn
 intro B' i hi hBB bs' W' hF hW hl
 have k:=((((hM.below ((hF.belowL hw.base).mono hL))).gz i hi))
 exact mc_Glo B' g bw bs' (M.g i).t (M.g i).m (M.g i).f (M.g i).pf (M.g i).cf W' (few_lt (hf.g i hi)) (hmf.g i hi) (few_siz (hf.g i hi)) (SA.mono k.h1.1 (le_lo (Qk hL (Qk (lo_B B g) hBB)) (Qk hL (lo_g B g)))) hbg (hbw.fr hF (by decide) hbg) hW hl
theorem secM_x (B g bw L:Nat) (M:MD) (W:World) (hL:L≤lo B g) (hf:FitM M) (hmf:MayF M) (hM:M.ok L W) (hbw:CA bw #[Qp (some ⟨g,0,none⟩)] 135 W) (hbg:bw≠g) (bs:List UInt8) (hw:WR0 B g bs W) (hn:bs.length≤90000000000000) :
  Calls QP 115 #[Qp (some ⟨g,0,none⟩),I J 7,V M.xp M.xn M.xc,.func (.func 116) #[] #[Qp (some ⟨bw,0,none⟩)]] W fun e w'=>e=Qr (.tuple #[])∧WR0 B g (bs++secL 7 M.xn (flB M.xn fun i=>mxL (M.x i))) w'∧FR B g W w':=by
 have hX:(flB M.xn fun i=>mxL (M.x i)).length≤1000000000000:=flB_small (k:=3000) hf.xn (fun i hi=>(by have h1:=strL_len (M.x i).s;have h2:=uI_len (M.x i).ix;have h3:=hf.x i hi;simp only[mxL,QA,QC];omega)) (by decide)
 refine sec_Exp B g bw 116 L (fun _ _=>rfl) 7 _ M.xp M.xn M.xc M.xg M.xw M.x W hL hM.xr ?_ hX bs hw hn
 intro B' i hi hBB bs' W' hF hW hl
 exact mc_Exp B' g bw bs' (M.x i).s (M.x i).k (M.x i).ix W' (hf.x i hi) hbg (hbw.fr hF (by decide) hbg) hW hl
theorem secM_e (B g bw L:Nat) (M:MD) (W:World) (hL:L≤lo B g) (hf:FitM M) (hmf:MayF M) (hM:M.ok L W) (hbw:CA bw #[Qp (some ⟨g,0,none⟩)] 135 W) (hbg:bw≠g) (bs:List UInt8) (hw:WR0 B g bs W) (hn:bs.length≤90000000000000) :
  Calls QP 120 #[Qp (some ⟨g,0,none⟩),I J 9,V M.ep M.en M.ec,.func (.func 121) #[] #[Qp (some ⟨bw,0,none⟩)]] W fun e w'=>e=Qr (.tuple #[])∧WR0 B g (bs++secL 9 M.en (flB M.en fun i=>meL (M.e i))) w'∧FR B g W w':=by
 have goods:∀i,i<M.en→Goods (M.e i).ng (M.e i).g:=fun i hi=>⟨(hf.e i hi).2,fun k hk=>few_lt (hf.ek i hi k hk),hmf.ek i hi,fun k hk=>few_siz (hf.ek i hi k hk)⟩
 have hX:(flB M.en fun i=>meL (M.e i)).length≤1000000000000:=flB_small (k:=7000000000) (Qk hf.en (by decide)) (fun i hi=>meL_len _ (hf.e i hi).1 (hmf.e i hi).1 (goods i hi)) (by decide)
 refine sec_Elm B g bw 121 L (fun _ _=>rfl) 9 _ M.ep M.en M.ec M.eg M.ew M.e W hL hM.er ?_ hX bs hw hn
 intro B' i hi hBB bs' W' hF hW hl
 have k:=((((hM.below ((hF.belowL hw.base).mono hL))).ez i hi))
 exact mc_Elm B' g bw bs' (M.e i).r (M.e i).m (M.e i).t (M.e i).f (M.e i).pf (M.e i).pg (M.e i).cf (M.e i).cg (M.e i).ng (meL (M.e i)) W' (fun W2 h2 h3=>elem_says B' g L bs' (M.e i) W2 (le_lo (Qk hL (Qk (lo_B B g) hBB)) (Qk hL (lo_g B g))) (k.below ((h2.belowL hW.1).mono (le_lo (Qk hL (Qk (lo_B B g) hBB)) (Qk hL (lo_g B g))))) (hf.e i hi).1 (hmf.e i hi).1 (goods i hi) ⟨(hmf.e i hi).2.1,(hmf.e i hi).2.2⟩ h3 hl) hbg (hbw.fr hF (by decide) hbg) hW hl
theorem secM_fF (B g bw L:Nat) (M:MD) (W:World) (hL:L≤lo B g) (hf:FitM M) (hmf:MayF M) (hM:M.ok L W) (hbw:CA bw #[Qp (some ⟨g,0,none⟩)] 135 W) (hbg:bw≠g) (bs:List UInt8) (hw:WR0 B g bs W) (hn:bs.length≤90000000000000) :
  Calls QP 103 #[Qp (some ⟨g,0,none⟩),I J 10,V M.fp M.fn M.fc,.func (.func 124) #[] #[Qp (some ⟨bw,0,none⟩)]] W fun e w'=>e=Qr (.tuple #[])∧WR0 B g (bs++secL 10 M.fn (flB M.fn fun i=>mfL (M.f i))) w'∧FR B g W w':=by
 have hX:(flB M.fn fun i=>mfL (M.f i)).length≤1000000000000:=flB_small (k:=80000000) (Qk hf.fn (by decide)) (fun i hi=>(by have h1:=mfX_len (M.f i).l (M.f i).f (hf.f i hi).2 (hmf.f i hi) (few_siz (hf.f i hi).1);have h2:=uI_len (locL (M.f i).l++codL (M.f i).f).length;unfold mfL szL;rw[QA];omega)) (by decide)
 refine sec_Fun B g bw 124 L (fun _ _=>rfl) 10 _ M.fp M.fn M.fc M.fg M.fw M.f W hL hM.fr ?_ hX bs hw hn
 intro B' i hi hBB bs' W' hF hW hl
 have k:=((((hM.below ((hF.belowL hw.base).mono hL))).fz i hi))
 exact mc_Fun B' g bw L bs' (M.f i).ty (M.f i).l (M.f i).f (M.f i).pl (M.f i).pf (M.f i).cl (M.f i).cf W' (le_lo (Qk hL (Qk (lo_B B g) hBB)) (Qk hL (lo_g B g))) (hf.f i hi).2 k.h1.1 (few_lt (hf.f i hi).1) (hmf.f i hi) (few_siz (hf.f i hi).1) k.h2.1 (hbw.fr hF (by decide) hbg) hW hl
theorem secM_d (B g bw L:Nat) (M:MD) (W:World) (hL:L≤lo B g) (hf:FitM M) (hmf:MayF M) (hM:M.ok L W) (hbw:CA bw #[Qp (some ⟨g,0,none⟩)] 135 W) (hbg:bw≠g) (bs:List UInt8) (hw:WR0 B g bs W) (hn:bs.length≤90000000000000) :
  Calls QP 126 #[Qp (some ⟨g,0,none⟩),I J 11,V M.dp M.dn M.dc,.func (.func 127) #[] #[Qp (some ⟨bw,0,none⟩)]] W fun e w'=>e=Qr (.tuple #[])∧WR0 B g (bs++secL 11 M.dn (flB M.dn fun i=>mdL (M.d i))) w'∧FR B g W w':=by
 have hX:(flB M.dn fun i=>mdL (M.d i)).length≤1000000000000:=flB_small (k:=7000000000) (Qk hf.dn (by decide)) (fun i hi=>mdL_len _ (hf.d i hi).1 (hmf.d i hi).1 (hf.d i hi).2) (by decide)
 refine sec_Dat B g bw 127 L (fun _ _=>rfl) 11 _ M.dp M.dn M.dc M.dg M.dw M.d W hL hM.dr ?_ hX bs hw hn
 intro B' i hi hBB bs' W' hF hW hl
 have k:=((((hM.below ((hF.belowL hw.base).mono hL))).dz i hi))
 exact mc_Dat B' g bw bs' (M.d i).m (M.d i).t (M.d i).f (M.d i).pf (M.d i).pb (M.d i).cf (M.d i).cb (M.d i).b.length (mdL (M.d i)) W' (fun W2 h2 h3=>data_says B' g L bs' (M.d i) W2 (le_lo (Qk hL (Qk (lo_B B g) hBB)) (Qk hL (lo_g B g))) (k.below ((h2.belowL hW.1).mono (le_lo (Qk hL (Qk (lo_B B g) hBB)) (Qk hL (lo_g B g))))) (hf.d i hi).1 (hmf.d i hi).1 (hf.d i hi).2 h3 hl) hbg (hbw.fr hF (by decide) hbg) hW hl
end Go.Proofs.YtjgeedgphcjhoaaGreat
