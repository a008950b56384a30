/-
  WInstrs, EMod, WCode, RBase, WSec, WName, WMeth: merged, what the law does not reach left out (each text says what it holds where it lies in wip). No condition.
-/
import Derived.Test.YtjgeedgphcjhoaaGreatS13
import Derived.Test.YtjgeedgphcjhoaaGreatS14
import Derived.Test.YtjgeedgphcjhoaaGreatS12
import Derived.Test.YtjgeedgphcjhoaaGreatS07
import Derived.Test.YtjgeedgphcjhoaaGreatS05
import Derived.Laws.AppendOwnNone
import Derived.Deep.RegionHeld3
import Derived.Test.YtjgeedgphcjhoaaGreatS01
set_option linter.unusedSimpArgs false
set_option linter.unusedVariables false
set_option maxRecDepth 100000
set_option maxHeartbeats 64000000
namespace Go.Proofs.YtjgeedgphcjhoaaGreat
open Go.RowKit
open Value renaming int → I,slice → V,bool → G,string → Qs,pointer → Qp
open IntKind renaming i64 → J,u64 → O
open Ending renaming returned → Qr
open Obj renaming cells → Qc
open _root_.Go.Proofs.Tryz renaming prog → QP
open Nat renaming le_refl → Ql,le_trans → Qk,zero_le → Qz
open List renaming length_append → QA,length_cons → QC,length_nil → QN,length_map → QM,append_assoc → QS
open Below renaming refl → QB
open Act renaming put → Qu
open Lib renaming byteCells → QY
def okE:Fo→Prop
 |.nil=>True
 |.cons op a b n h l ot body els rest=>(0≤op∧op<65024∧n<18446744073709551616∧h<18446744073709551616∧i64C b∧((lineL op).2.1=1→a=0∨a=1∨a=2))∧okE body∧okE els∧okE rest
def Fo.siz:Fo→Nat
 |.nil=>0
 |.cons _ _ _ _ _ l _ body els rest=>400+20*l.length+body.siz+els.siz+rest.siz
theorem enc_siz:∀f:Fo,okE f→f.enc.length≤f.siz
 |.nil,_=>Ql _
 |.cons op a b n h l ot body els rest,ho=>by
  have h1:=enc_siz body ho.2.1
  have h2:=enc_siz els ho.2.2.1
  have h3:=enc_siz rest ho.2.2.2
  have h4:=opL_len op
  have h5:=behL_len (lineL op).2.1 a b n h l ot body.enc els.enc ho.1.2.2.2.2.1
  simp only[Fo.enc,Fo.siz,QA]
  omega
theorem instr_says (B g:Nat) (bs:List UInt8) (op a b:Int) (n h:Nat) (l:List Int) (pl pb pe:Option Addr) (nl cl nb cb ne ce:Nat) (ot:Bool) (w:World) (hw:WR B g bs w)
  (ho:0≤op∧op<65024∧n<18446744073709551616∧h<18446744073709551616∧i64C b∧((lineL op).2.1=1→a=0∨a=1∨a=2)) (eb ee:List UInt8) (sb se:Nat) (hl:LT B g w (V pl nl cl) l)
  (hr1:Wrote B g w (V pb nb cb) eb sb) (hr2:Wrote B g w (V pe ne ce) ee se) (hn:bs.length+300+20*l.length+sb+se≤140737488355000) (he1:eb.length≤sb) (he2:ee.length≤se) :
  Calls QP 230 #[Qp (some ⟨g,0,none⟩),.agg #[I J op,I J a,I J b,I O n,I O h,V pl nl cl,V pb nb cb,V pe ne ce,G ot]] w fun e w'=>e=Qr (.tuple #[])∧WR B g (bs++(opL op++behL (lineL op).2.1 a b n h l ot eb ee)) w'∧FR B g w w':=by
 have hI:=Imm_says op
 obtain ⟨h0,h1,_⟩:=line_ok op
 obtain ⟨o0,o1,o2,o3,o4,o5⟩:=ho
 generalize (lineL op).2.1=k at *
 have hn':bs.length+300+20*l.length≤140737488355000:=by omega
 have m0:List.map byI [0]=[0]:=rfl
 have m00:List.map byI [0,0]=[0,0]:=rfl
 have ma:List.map byI [a]=[byI a]:=rfl
 rcases (show k=0∨k=1∨k=2∨k=3∨k=4∨k=5∨k=6∨k=7∨k=8∨k=9∨k=10∨k=11∨k=12∨k=13∨k=14∨k=15∨k=16∨k=17∨k=18∨k=19∨k=20∨k=21∨k=22∨k=23∨k=24∨k=25∨k=26 by omega) with rfl|rfl|rfl|rfl|rfl|rfl|rfl|rfl|rfl|rfl|rfl|rfl|rfl|rfl|rfl|rfl|rfl|rfl|rfl|rfl|rfl|rfl|rfl|rfl|rfl|rfl|rfl
 ·have:=instr_0 B g bs op a b n h l pl pb pe nl cl nb cb ne ce ot w hw o0 o1 o2 o3 hI hl hn'
  simpa[behL,m0,m00,ma,QS]using this
 ·have:=instr_1 B g bs op a b n h pl pb pe nl cl nb cb ne ce ot w hw o0 o1 (o5 rfl) o4 eb ee sb se hI hr1 hr2 (by omega) he1 he2
  rw[QS]at this
  exact this
 ·have:=instr_2 2 (by decide) B g bs op a b n h l pl pb pe nl cl nb cb ne ce ot w hw o0 o1 o2 o3 hI hl hn'
  simpa[behL,m0,m00,ma,QS]using this
 ·have:=instr_3 B g bs op a b n h l pl pb pe nl cl nb cb ne ce ot w hw o0 o1 o2 o3 hI hl hn'
  simpa[behL,m0,m00,ma,QS]using this
 ·have:=instr_2 4 (by decide) B g bs op a b n h l pl pb pe nl cl nb cb ne ce ot w hw o0 o1 o2 o3 hI hl hn'
  simpa[behL,m0,m00,ma,QS]using this
 ·have:=instr_5 5 (by decide) B g bs op a b n h l pl pb pe nl cl nb cb ne ce ot w hw o0 o1 o2 o3 hI hl hn'
  simpa[behL,m0,m00,ma,QS]using this
 ·have:=instr_6 B g bs op a b n h l pl pb pe nl cl nb cb ne ce ot w hw o0 o1 o2 o3 hI hl hn'
  simpa[behL,m0,m00,ma,QS]using this
 ·have:=instr_2 7 (by decide) B g bs op a b n h l pl pb pe nl cl nb cb ne ce ot w hw o0 o1 o2 o3 hI hl hn'
  simpa[behL,m0,m00,ma,QS]using this
 ·have:=instr_2 8 (by decide) B g bs op a b n h l pl pb pe nl cl nb cb ne ce ot w hw o0 o1 o2 o3 hI hl hn'
  simpa[behL,m0,m00,ma,QS]using this
 ·have:=instr_2 9 (by decide) B g bs op a b n h l pl pb pe nl cl nb cb ne ce ot w hw o0 o1 o2 o3 hI hl hn'
  simpa[behL,m0,m00,ma,QS]using this
 ·have:=instr_5 10 (by decide) B g bs op a b n h l pl pb pe nl cl nb cb ne ce ot w hw o0 o1 o2 o3 hI hl hn'
  simpa[behL,m0,m00,ma,QS]using this
 ·have:=instr_11 B g bs op a b n h l pl pb pe nl cl nb cb ne ce ot w hw o0 o1 o2 o3 hI hl hn'
  simpa[behL,m0,m00,ma,QS]using this
 ·have:=instr_12 B g bs op a b n h l pl pb pe nl cl nb cb ne ce ot w hw o0 o1 o2 o3 hI hl hn'
  simpa[behL,m0,m00,ma,QS]using this
 ·have:=instr_13 B g bs op a b n h l pl pb pe nl cl nb cb ne ce ot w hw o0 o1 o2 o3 hI hl hn'
  simpa[behL,m0,m00,ma,QS]using this
 ·have:=instr_14 B g bs op a b n h l pl pb pe nl cl nb cb ne ce ot w hw o0 o1 o2 o3 hI hl hn'
  simpa[behL,m0,m00,ma,QS]using this
 ·have:=instr_15 B g bs op a b n h l pl pb pe nl cl nb cb ne ce ot w hw o0 o1 o2 o3 hI hl hn'
  simpa[behL,m0,m00,ma,QS]using this
 ·have:=instr_16 16 (by decide) B g bs op a b n h l pl pb pe nl cl nb cb ne ce ot w hw o0 o1 o2 o3 hI hl hn'
  simpa[behL,m0,m00,ma,QS]using this
 ·have:=instr_17 B g bs op a b n h l pl pb pe nl cl nb cb ne ce ot w hw o0 o1 o2 o3 hI hl hn'
  simpa[behL,m0,m00,ma,QS]using this
 ·have:=instr_2 18 (by decide) B g bs op a b n h l pl pb pe nl cl nb cb ne ce ot w hw o0 o1 o2 o3 hI hl hn'
  simpa[behL,m0,m00,ma,QS]using this
 ·have:=instr_19 B g bs op a b n h l pl pb pe nl cl nb cb ne ce ot w hw o0 o1 o2 o3 hI hl hn'
  simpa[behL,m0,m00,ma,QS]using this
 ·have:=instr_5 20 (by decide) B g bs op a b n h l pl pb pe nl cl nb cb ne ce ot w hw o0 o1 o2 o3 hI hl hn'
  simpa[behL,m0,m00,ma,QS]using this
 ·have:=instr_2 21 (by decide) B g bs op a b n h l pl pb pe nl cl nb cb ne ce ot w hw o0 o1 o2 o3 hI hl hn'
  simpa[behL,m0,m00,ma,QS]using this
 ·have:=instr_5 22 (by decide) B g bs op a b n h l pl pb pe nl cl nb cb ne ce ot w hw o0 o1 o2 o3 hI hl hn'
  simpa[behL,m0,m00,ma,QS]using this
 ·have:=instr_23 B g bs op a b n h l pl pb pe nl cl nb cb ne ce ot w hw o0 o1 o2 o3 hI hl hn'
  simpa[behL,m0,m00,ma,QS]using this
 ·have:=instr_24 B g bs op a b n h l pl pb pe nl cl nb cb ne ce ot w hw o0 o1 o2 o3 hI hl hn'
  simpa[behL,m0,m00,ma,QS]using this
 ·have:=instr_16 25 (by decide) B g bs op a b n h l pl pb pe nl cl nb cb ne ce ot w hw o0 o1 o2 o3 hI hl hn'
  simpa[behL,m0,m00,ma,QS]using this
 have:=instr_26 B g bs op a b n h l pl pb pe nl cl nb cb ne ce ot w hw o0 o1 o2 o3 hI hl hn'
 simpa[behL,m0,m00,ma,QS]using this
theorem instrs_says (B g:Nat):∀(N:Nat) (f:Fo),f.cnt<N→f.cnt<9223372036854775806→okE f→∀(v:Value) (w:World),B≤w.heap.size→SA (lo B g) w v f→Wrote B g w v f.enc f.siz:=by
 intro N
 induction N with
 |zero=>intro f h;omega
 |succ N ih =>
  intro f hf hf2 hok v w0 hB0 hs0 bs w hbw hw hn
  have hs:=SA.below hs0 hbw
  clear hs0 hB0
  obtain ⟨p,cp,g0,o0,rfl,hp,hfa⟩:=hs
  have HIH:=hid ih
  have HP:=hid hp
  have HBW:=hid hw.base
  obtain ⟨m,hm⟩:∃m,m=f.len:=⟨_,rfl⟩
  rw[←hm]at HP ⊢
  have hml:m≤f.cnt:=by
   have:∀f:Fo,f.len≤f.cnt:=by
    intro f
    induction f with
    |nil=>exact Ql _
    |cons _ _ _ _ _ _ _ _ _ _ _ _ ihr=>simp only[Fo.len,Fo.cnt];omega
   rw[hm];exact this f
  obtain ⟨E,hE⟩:∃E,E=bs++f.enc:=⟨_,rfl⟩
  rw[←hE]
  have HS:Hid (0+f.len=m∧(f.cnt<N+1∧f.cnt<9223372036854775806)∧FA (lo B g) w f g0 (o0+0*9)∧okE f∧E=bs++f.enc∧bs.length+f.siz≤140737488355000):=⟨by rw[hm];omega,⟨hf,hf2⟩,by simpa using hfa,hok,hE,hn⟩
  have hm62:(m:Int)<9223372036854775807:=by omega
  have HW:=hid hw
  clear ih hp hm hml hfa hf hf2 hE hn hok hw hbw
  go_enter Tryz.func208,Tryz.ntmps208
  go_wp2
  go_loopw [8] (fun vi wr=>∃(i:Nat) (fi:Fo) (bi:List UInt8),i≤m∧vi=I J i∧Hid (WR B g bi wr)∧Hid (FR B g w wr)∧Hid (i+fi.len=m∧(fi.cnt<N+1∧fi.cnt<9223372036854775806)∧FA (lo B g) wr fi g0 (o0+i*9)∧okE fi∧E=bi++fi.enc∧bi.length+fi.siz≤140737488355000)) (fun vi _=>m-(intOf vi).toNat)
  case atStart=>exact ⟨0,f,bs,Qz _,rfl,HW,FR.refl _ _ _,HS⟩
  obtain ⟨i,fi,bi,him,rfl,HWR,HFR,HI⟩:=hrel
  cases fi with
  |nil =>
   have hi:i=m:=HI.out.1
   subst hi
   have HE:=hid HI.out.2.2.2.2.1
   go_wp2
   (first|go_end0|refine bodyPost_ret (results_none rfl _ _ _) rfl ?_)
   exact ⟨rfl,by rw[HE.out];simpa[Fo.enc]using HWR.out,HFR.out⟩
  |cons op a b n h l ot body els rest =>
   obtain ⟨hg,⟨vl,vb,ve,x0,x1,x2,x3,x4,x5,x6,x7,x8,hl,hbo,hel⟩,hrest⟩:=HI.out.2.2.1
   obtain ⟨pl,cl,evl,_⟩:=id hl
   obtain ⟨pb,cb,gb',ob',evb,_⟩:=id hbo
   obtain ⟨pe,ce,ge',oe',eve,_⟩:=id hel
   obtain ⟨nl,hnl⟩:∃x,x=l.length:=⟨_,rfl⟩
   obtain ⟨nb,hnb⟩:∃x,x=body.len:=⟨_,rfl⟩
   obtain ⟨ne,hne⟩:∃x,x=els.len:=⟨_,rfl⟩
   rw[←hnl]at evl
   rw[←hnb]at evb
   rw[←hne]at eve
   subst evl evb eve
   clear hnl hnb hne
   have hlt:i<m:=by have:=HI.out.1;simp only[Fo.len]at this;omega
   obtain rfl:=HP.out (by omega)
   have hcn:=HI.out.2.1
   simp only[Fo.cnt]at hcn
   have hBr:B≤wr.heap.size:=HWR.out.base
   have hok:=HI.out.2.2.2.1
   have hsz:=HI.out.2.2.2.2.2
   simp only[Fo.siz]at hsz
   have hbe:=enc_siz body hok.2.1
   have hee:=enc_siz els hok.2.2.1
   have HLE:=hid (show i+1+rest.len=m∧(rest.cnt<N+1∧rest.cnt<9223372036854775806) by have h1:=HI.out.1;simp only[Fo.len]at h1;omega)
   have HEQ:Hid (E=bi++(opL op++behL (lineL op).2.1 a b n h l ot body.enc els.enc)++rest.enc):=by
    have:=HI.out.2.2.2.2.1
    simp only[Fo.enc]at this
    simpa[Hid,QS]using this
   have HOKR:=hid hok.2.2.2
   have hb5:=behL_len (lineL op).2.1 a b n h l ot body.enc els.enc hok.1.2.2.2.2.1
   have hb6:=opL_len op
   have HSZ:=hid (show (bi++(opL op++behL (lineL op).2.1 a b n h l ot body.enc els.enc)).length+rest.siz≤140737488355000 by simp only[QA];omega)
   have HIN:=hid (instr_says B g bi op a b n h l pl pb pe nl cl nb cb ne ce ot)
   have HC:=fun (W:World) (h1:WR B g bi W) (h2:FR B g wr W)=>hid (instr_says B g bi op a b n h l pl pb pe nl cl nb cb ne ce ot W h1 hok.1 body.enc els.enc body.siz els.siz ((LT.of hl (Ql _) hBr).fr h2) (HIH.out body (by omega) (by omega) hok.2.1 _ W (Qk hBr h2.size) (SA.below hbo (h2.belowL hBr))) (HIH.out els (by omega) (by omega) hok.2.2.1 _ W (Qk hBr h2.size) (SA.below hel (h2.belowL hBr))) (by omega) hbe hee)
   obtain ⟨X,hX⟩:∃X,X=opL op++behL (lineL op).2.1 a b n h l ot body.enc els.enc:=⟨_,rfl⟩
   rw[←hX]at HC HSZ HEQ
   have HREST:=hid hrest
   have HX:=hid (CA.new wr #[I J op,I J a,I J b,I O n,I O h,V pl nl cl,V pb nb cb,V pe ne ce,G ot] 39)
   have HF1:=hid ((FR.refl B g wr).alloc (Qc #[I J op,I J a,I J b,I O n,I O h,V pl nl cl,V pb nb cb,V pe ne ce,G ot] 39))
   have HW1:=hid (HWR.out.alloc (Qc #[I J op,I J a,I J b,I O n,I O h,V pl nl cl,V pb nb cb,V pe ne ce,G ot] 39))
   have HBR:=hid hBr
   clear hl hbo hel hrest HI hg hcn HS hok hsz hbe hee hb5 hb6 hX HIN hBr
   go_wp2_with (go_at_call 230;(with_reducible refine (HC _ HW1.out HF1.out).out.mono ?_);rintro e w2 ⟨rfl,hw2,hf2⟩;have HW2:=hid hw2;have HFF:=hid (HF1.out.trans hf2);clear hw2 hf2)
   go_roundw
   case rel =>
    refine ⟨i+1,rest,bi++X,hlt,by go_num,HW2,hid (HFR.out.trans HFF.out),HLE.out.1,HLE.out.2,?_,HOKR.out,HEQ.out,HSZ.out⟩
    have h9:o0+(i+1)*9=o0+i*9+9:=by omega
    rw[h9]
    exact FA.below (HFF.out.belowL HBR.out) _ _ _ HREST.out
   case measure=>simp[intOf];omega
def flB:Nat→(Nat→List UInt8)→List UInt8
  |0,_=>[]
  |n+1,P=>flB n P++P n
theorem flB_le (P:Nat→List UInt8):∀ {i n:Nat},i≤n→(flB i P).length≤(flB n P).length
  |i,n,h=>by
    induction n with
    |zero =>
      obtain rfl:i=0:=by omega
      exact Ql _
    |succ n ih =>
      by_cases e:i=n+1
      · subst e
        exact Ql _
      · have:=ih (by omega)
        simp only[flB,QA]
        omega
theorem flB_bound (P:Nat→List UInt8) (k:Nat):∀n,(∀i,i<n→(P i).length≤k)→(flB n P).length≤n*k
  |0,_=>by simp[flB]
  |n+1,h=>by
    have:=flB_bound P k n (fun i hi=>h i (by omega))
    have:=h n (by omega)
    simp only[flB,QA,Nat.add_mul,Nat.one_mul]
    omega
def strL (s:ByteArray):List UInt8:=uI s.size++s.data.toList
def lsL (l:List Int):List UInt8:=uI l.length++l.map byI
def limL (mn mx:Int) (h:Bool):List UInt8:=if h=true then 1::(uI mn++uI mx) else 0::uI mn
def tabL (r mn mx:Int) (h:Bool):List UInt8:=byI r::limL mn mx h
def gloL (t:Int) (m:Bool):List UInt8:=[byI t,if m=true then 1 else 0]
noncomputable def codL (f:Fo):List UInt8:=f.enc++[11]
def mtL (e:ETyp):List UInt8:=96::(lsL e.a++lsL e.b)
def miL (e:EImp):List UInt8:=strL e.s0++strL e.s1++byI e.kd::(if e.kd=0 then uI e.ty else if e.kd=1 then tabL e.tr e.tmn e.tmx e.th else if e.kd=2 then limL e.mmn e.mmx e.mh else gloL e.gt e.gm)
def mbL (e:ETab):List UInt8:=tabL e.r e.mn e.mx e.h
def mlL (e:ELim):List UInt8:=limL e.mn e.mx e.h
noncomputable def mgL (e:EGlo):List UInt8:=gloL e.t e.m++codL e.f
def mxL (e:EExp):List UInt8:=strL e.s++byI e.k::uI e.ix
def runsL:List Int→List (Nat × Int)
  | []=>[]
  |x::l=>match runsL l with
    | []=>[(1,x)]
    |(n,y)::r=>if x=y then (n+1,y)::r else (1,x)::(n,y)::r
def runB (r:Nat × Int):List UInt8:=uI r.1++[byI r.2]
def rbL:List (Nat × Int)→List UInt8
  | []=>[]
  |r::l=>runB r++rbL l
def locL (l:List Int):List UInt8:=uI (runsL l).length++rbL (runsL l)
def szL (x:List UInt8):List UInt8:=uI x.length++x
noncomputable def mfL (e:EFun):List UInt8:=szL (locL e.l++codL e.f)
def secL (id:Int) (n:Nat) (b:List UInt8):List UInt8:=if n=0 then [] else byI id::szL (uI n++b)
def isFun (f:Fo):Bool:=match f with
  |.cons op _ _ _ _ _ _ _ _ .nil=>op==210
  |_=>false
def fstA (f:Fo):Int:=match f with
  |.cons _ a _ _ _ _ _ _ _ _=>a
  |.nil=>0
def funsB (e:EElm):Bool:=(List.range e.ng).all (fun k=>isFun (e.g k))&&(e.r==112)
noncomputable def iniL (b:Bool) (f:Fo):List UInt8:=if b=true then uI (fstA f) else codL f
noncomputable def meL (e:EElm):List UInt8 :=
  (if e.m=0 then (if e.t=0∧e.r=112 then (if funsB e=true then 0 else 4)::codL e.f else (if funsB e=true then 2 else 6)::(uI e.t++codL e.f++[if funsB e=true then 0 else byI e.r]))
   else if e.m=1 then [if funsB e=true then 1 else 5,if funsB e=true then 0 else byI e.r] else [if funsB e=true then 3 else 7,if funsB e=true then 0 else byI e.r]) ++
  (uI e.ng++flB e.ng (fun k=>iniL (funsB e) (e.g k)))
noncomputable def mdL (e:EDat):List UInt8:=(if e.m=1 then [1] else if e.t=0 then 0::codL e.f else 2::(uI e.t++codL e.f))++szL e.b
noncomputable def headsL (M:MD):List UInt8:=secL 1 M.tn (flB M.tn fun i=>mtL (M.t i))++secL 2 M.imn (flB M.imn fun i=>miL (M.im i))++secL 3 M.fn (flB M.fn fun i=>uI (M.f i).ty)
def starL (st:Int):List UInt8:=if st=0 then [] else 8::szL (uI (st-1))
noncomputable def midL (M:MD):List UInt8:=secL 4 M.tbn (flB M.tbn fun i=>mbL (M.tb i))++secL 5 M.mn (flB M.mn fun i=>mlL (M.m i))++secL 6 M.gn (flB M.gn fun i=>mgL (M.g i))++secL 7 M.xn (flB M.xn fun i=>mxL (M.x i))++starL M.st
noncomputable def modL (M:MD):List UInt8:=[0,97,115,109,1,0,0,0]++headsL M++midL M++secL 9 M.en (flB M.en fun i=>meL (M.e i))++(if M.cnt=true then 12::szL (uI M.dn) else [])++secL 10 M.fn (flB M.fn fun i=>mfL (M.f i))++secL 11 M.dn (flB M.dn fun i=>mdL (M.d i))
theorem code_says (B g:Nat) (f:Fo) (hf:f.cnt<9223372036854775806) (hok:okE f) (v:Value) (bs:List UInt8) (w:World) (hw:WR B g bs w) (hs:SA (lo B g) w v f) (hn:bs.length+20+f.siz≤140737488355000) :
  Calls QP 136 #[Qp (some ⟨g,0,none⟩),v] w fun e w'=>e=Qr (.tuple #[])∧WR B g (bs++(f.enc++[11])) w'∧FR B g w w':=by
 have HI:=hid (instrs_says B g (f.cnt+1) f (by omega) hf hok v w hw.base hs bs w (QB _ _) hw (by omega))
 have hsz:=enc_siz f hok
 obtain ⟨p,c,g',o',rfl,_,_⟩:=hs
 have HN:=hid (show (bs++f.enc).length+([11]:List Int).length≤140737488355000 by simp only[QA,QC,QN];omega)
 clear hn hsz hok hf hw
 generalize f.len=m at *
 go_enter Tryz.func136,Tryz.ntmps136
 go_wp2_with (first
  |(go_at_call 208;(with_reducible refine HI.out.mono ?_);rintro e w1 ⟨rfl,hw1,hf1⟩;have HW1:=hid hw1;have HF1:=hid hf1;clear hw1 hf1)
  |(go_at_call 169;(with_reducible refine (bytes_says B g _ [11] _ _ (HW1.out.alloc _) (LT.one 11 1 HW1.out.lt) HN.out).mono ?_);rintro e w2 ⟨rfl,hw2,hf2⟩;have HW2:=hid hw2;have HF2:=hid ((HF1.out.alloc _).trans hf2);clear hw2 hf2))
 (first|go_end0|refine bodyPost_ret (results_none rfl _ _ _) rfl ?_)
 exact ⟨rfl,by rw[←QS];exact HW2.out,HF2.out⟩
structure RF (B:Nat) (w w':World):Prop where
 os:w'.os=w.os
 tape:w'.tape=w.tape
 output:w'.output=w.output
 size:w.heap.size≤w'.heap.size
 block:∀k,k<w.heap.size→(k<B∨∃cs T fr,w.heap[k]?=some (.cells cs T fr)∧T≠5)→w'.heap[k]?=w.heap[k]?
theorem RF.refl (B:Nat) (w:World):RF B w w:=⟨rfl,rfl,rfl,Ql _,fun _ _ _=>rfl⟩
theorem RF.nw {B:Nat} {w w':World} (h:RF B w w') {k:Nat} (hl:k<w.heap.size) (hk:k<B∨∃cs T fr,w.heap[k]?=some (.cells cs T fr)∧T≠5):k<B∨∃cs T fr,w'.heap[k]?=some (.cells cs T fr)∧T≠5:=by
 rcases hk with h2|⟨cs,T,fr,h2,h3⟩
 ·exact .inl h2
 exact .inr ⟨cs,T,fr,(h.block k hl (.inr ⟨cs,T,fr,h2,h3⟩)).trans h2,h3⟩
theorem RF.trans {B:Nat} {a b c:World} (h:RF B a b) (k:RF B b c):RF B a c :=
 ⟨k.os.trans h.os,k.tape.trans h.tape,k.output.trans h.output,Qk h.size k.size,fun i hi hk=>(k.block i (Nat.lt_of_lt_of_le hi h.size) (h.nw hi hk)).trans (h.block i hi hk)⟩
theorem RF.of {B:Nat} {w w':World} (h:Below w.heap.size w w'):RF B w w':=⟨h.os,h.tape,h.output,h.size,fun k hk _=>h.block k hk⟩
theorem RF.alloc {B:Nat} {a w:World} (h:RF B a w) (o:Obj):RF B a (w.alloc o):=h.trans (RF.of ((QB _ _).alloc (Ql _) o))
theorem RF.drew {B:Nat} {a w:World} (h:RF B a w):RF B a w.drew:=⟨h.os,h.tape,h.output,h.size,h.block⟩
theorem RF.below {B:Nat} {w w':World} (h:RF B w w') (hB:B≤w.heap.size):Below B w w' :=
 ⟨h.os,h.tape,h.output,h.size,fun k hk=>h.block k (by omega) (.inl hk)⟩
theorem RF.grown {B:Nat} {w w':World} {v:Value} {n:Nat} {xs:List Value} (ho:w.ownsRow B 5 1 v n xs) (hg:w.grownBy w' v.ownBlock):RF B w w' :=
 ⟨hg.os,hg.tape,hg.output,hg.size,fun k hl hk=>hg.block k hl (by
  rcases hk with h2|⟨cs,T,fr,h2,h3⟩
  ·intro e
   have:=(ho.lt k e.symm).1
   omega
  exact (Lib.ownBlock_ne ho h2 h3).symm)⟩
theorem CA.rf {B k:Nat} {cs:Array Value} {T:TypeId} {w w':World} (h:CA k cs T w) (hf:RF B w w') (hT:T≠5):CA k cs T w':=by
 have:=hf.block k h.lt (.inr ⟨cs,T,_,h,hT⟩)
 unfold CA at h ⊢
 rw[this,h]
def BO (w:World) (X:List UInt8) (e:Ending) (w':World):Prop:=∃v,e=Qr v∧w'.ownsRow w.heap.size 5 1 v X.length (QY X)∧Below w.heap.size w w'
theorem own_less {w:World} {base base':Nat} {v:Value} {n:Nat} {xs:List Value} (h:w.ownsRow base 5 1 v n xs) (hb:base'≤base):w.ownsRow base' 5 1 v n xs:=ownsRow_mono h hb
theorem run_app (w:World) (B B2:Nat) (ty:TypeId) (xs ys:List UInt8) (v v2:Value) (hown:w.ownsRow B 5 1 v xs.length (QY xs)) (hown2:w.ownsRow B2 5 1 v2 ys.length (QY ys)) (hn:xs.length+ys.length≤140737488355000) (hB:B≤w.heap.size) :
  ∃v' w',(Builtin.append_ #[52,52] ty #[v,v2]).run QP w=.ok v' w'∧w'.ownsRow B 5 1 v' (xs++ys).length (QY (xs++ys))∧w.grownBy w' v.ownBlock:=by
 obtain ⟨i0,hi,hz0,hz1,hz2⟩:=info_parts info5
 rcases hown2.2 with ⟨rfl,h2⟩|⟨g,cap,cur,rfl,hr⟩
 ·obtain rfl:ys=[]:=List.eq_nil_of_length_eq_zero h2
  refine ⟨v,w,run_append_owned_none (P:=QP) (w:=w) B 52 ty 5 i0 1 Tryz.underlying52 hi v xs.length (QY xs) hown,by rw[List.append_nil];exact hown,⟨rfl,rfl,rfl,Ql _,fun _ _ _=>rfl⟩⟩
 obtain ⟨v',w',h1,h2,h3,_⟩:=run_append_own (P:=QP) w B 52 ty 5 i0 (.int .u8 0) 1 1 Tryz.underlying52 hi hz0 hz1 hz2 rfl (by decide) v xs.length (QY xs) hown ⟨g,0,none⟩ ys.length cap (QY ys) (by rw[Lib.byteCells_length,Nat.mul_one]) (own_cells hown2) (byteCells_one ys) (by unfold maxLen;omega) (by omega) hB
 exact ⟨v',w',h1,by rw[QA,Lib.byteCells_append];exact h2,h3⟩
theorem append_rowW {w:World} {ops:Array Oper} {rest:List Oper} {o:Oper} {a:Act} {Q:Exit→Act→World→Prop} (hgd:o.guard=none) (s x:Operand)
  (ho:o.op=.call { callee:=.builtin .append,args:=#[s,x],argTypes:=#[52,52] }) (B B2:Nat) (xs ys:List UInt8) (v v2:Value) (W0:World) (hown:w.ownsRow B 5 1 v xs.length (QY xs)) (hown2:w.ownsRow B2 5 1 v2 ys.length (QY ys))
  (hn:xs.length+ys.length≤140737488355000) (hB:B≤W0.heap.size) (hf:RF B W0 w) (hs:a.eval s=v) (hx:a.eval x=v2)
  (h:∀p m c w',w'.ownsRow B 5 1 (V p m c) (xs++ys).length (QY (xs++ys))→RF B W0 w'→wpList QP ops Q rest (a.put o.dst (V p m c)) w') :
  wpList QP ops Q (o::rest) a w:=by
 refine wpList_plain hgd fun K hK=>?_
 obtain ⟨v',w',hrun,r1,r2⟩:=run_app w B B2 o.type xs ys v v2 hown hown2 hn (Qk hB hf.size)
 obtain ⟨p,m,c,rfl⟩:=own_slice r1
 unfold Oper.wp
 simp[execOp,ho,resolve,invoke,builtin,hs,hx,hrun,Result.andThen]
 exact hK _ _ (h _ _ _ _ r1 (hf.trans (RF.grown hown r2)))
theorem append_rowS {ops:Array Oper} {o:Oper} {a:Act} {w:World} {K:Act→World→Prop} {Q:Exit→Act→World→Prop} {E:Prop} (hgd:o.guard=none) (s x:Operand)
  (ho:o.op=.call { callee:=.builtin .append,args:=#[s,x],argTypes:=#[52,52] }) (B B2:Nat) (xs ys:List UInt8) (v v2:Value) (W0:World) (hown:w.ownsRow B 5 1 v xs.length (QY xs)) (hown2:w.ownsRow B2 5 1 v2 ys.length (QY ys))
  (hn:xs.length+ys.length≤140737488355000) (hB:B≤W0.heap.size) (hf:RF B W0 w) (hs:a.eval s=v) (hx:a.eval x=v2)
  (h:∀p m c w',w'.ownsRow B 5 1 (V p m c) (xs++ys).length (QY (xs++ys))→RF B w w'→K (a.put o.dst (V p m c)) w') :
  if Region.wanted o (yielded ops a.tmps)=true then Oper.wp QP o a w K Q else E:=by
 have hw:Region.wanted o (yielded ops a.tmps)=true:=by simp[Region.wanted,hgd]
 rw[if_pos hw]
 obtain ⟨v',w',hrun,r1,r2⟩:=run_app w B B2 o.type xs ys v v2 hown hown2 hn (Qk hB hf.size)
 obtain ⟨p,m,c,rfl⟩:=own_slice r1
 unfold Oper.wp
 simp[execOp,ho,resolve,invoke,builtin,hs,hx,hrun,Result.andThen]
 exact h _ _ _ _ r1 (RF.grown hown r2)
theorem own_lit1 (w:World) (n:Int):(w.alloc (Qc #[.int .u8 (n%256)] 5)).ownsRow w.heap.size 5 1 (V (some ⟨w.heap.size,0,none⟩) 1 1) [byI n].length (QY [byI n]):=by
 have:=World.ownsRow_lit (base:=w.heap.size) (e:=5) (size:=1) w #[.int .u8 (n%256)] 1 (Ql _) (by decide) rfl
 have e:QY [byI n]=[.int .u8 (n%256)]:=by simp[QY,byI_nat]
 rw[e]
 exact this
theorem own_litc (w:World) (q:Int) (b:UInt8) (hq:(b.toNat:Int)=q):(w.alloc (Qc #[.int .u8 q] 5)).ownsRow w.heap.size 5 1 (V (some ⟨w.heap.size,0,none⟩) 1 1) [b].length (QY [b]):=by
 have:=World.ownsRow_lit (base:=w.heap.size) (e:=5) (size:=1) w #[.int .u8 q] 1 (Ql _) (by decide) rfl
 have e:QY [b]=[.int .u8 q]:=by simp[QY,hq]
 rw[e]
 exact this
theorem own_nil (w:World) (B:Nat):w.ownsRow B 5 1 (V none 0 0) ([]:List UInt8).length (QY []):=World.ownsRow_nil _ _ _ _
def WM (B g k:Nat) (args:Array Value) (X:List UInt8) (w:World):Prop :=
 ∀bs,WR B g bs w→bs.length≤100000000000000→Calls QP k args w fun e w'=>e=Qr (.tuple #[])∧WR B g (bs++X) w'∧FR B g w w'
theorem row_keep {w w':World} {c:Option Nat} {base:Nat} {v:Value} {n:Nat} {xs:List Value} (h:w.ownsRow base 5 1 v n xs) (hb:KP c w w') (hc:∀k,v.ownBlock=some k→c≠some k):w'.ownsRow base 5 1 v n xs:=by
 refine ⟨h.1,?_⟩
 rcases h.2 with h2|⟨g,cap,cur,h1,h2,h3,h4⟩
 ·exact .inl h2
 refine .inr ⟨g,cap,cur,h1,h2,(hb.block g (Array.getElem?_eq_some_iff.1 h3).1 (hc g ?_)).trans h3,h4⟩
 rw[h1]
 rfl
theorem row_nw {B g:Nat} {w w':World} {base:Nat} {v:Value} {n:Nat} {xs:List Value} (h:w.ownsRow base 5 1 v n xs) (hb:FR B g w w') (hc:∀k,v.ownBlock=some k→NW B g w k):w'.ownsRow base 5 1 v n xs:=by
 refine ⟨h.1,?_⟩
 rcases h.2 with h2|⟨g,cap,cur,h1,h2,h3,h4⟩
 ·exact .inl h2
 refine .inr ⟨g,cap,cur,h1,h2,(hb.block g (hc g ?_)).trans h3,h4⟩
 rw[h1]
 rfl
theorem row_len {w:World} {base:Nat} {p:Option Addr} {q c n:Nat} {xs:List Value} (h:w.ownsRow base 5 1 (V p q c) n xs):q=n:=by
 rcases h.2 with ⟨h2,h3⟩|⟨g,cap,cur,h1,_⟩
 ·injection h2 with _ e _
  omega
 injection h1
theorem FR.kp {g:Nat} {w w':World} (h:FR w.heap.size g w w'):KP (some g) w w':=⟨h.os,h.tape,h.output,h.size,fun k hk hc=>h.block k ⟨fun e=>hc (by rw[e]),hk,.inl hk⟩⟩
theorem FR.up {B B' g:Nat} {w w':World} (h:FR B' g w w') (hB:w.heap.size≤B'):FR B g w w':=⟨h.os,h.tape,h.output,h.size,fun k hk=>h.block k ⟨hk.1,hk.2.1,.inl (by have:=hk.2.1;omega)⟩,h.own⟩
theorem append_rowF {w:World} {ops:Array Oper} {rest:List Oper} {o:Oper} {a:Act} {Q:Exit→Act→World→Prop} (hgd:o.guard=none) (s x:Operand)
  (ho:o.op=.call { callee:=.builtin .append,args:=#[s,x],argTypes:=#[52,52] }) (B g:Nat) (bs ys:List UInt8) (v v2:Value) (B2:Nat) (W0:World)
  (hBw:B≤w.heap.size) (hc:CA g #[v] 137 w) (hown:w.ownsRow B 5 1 v bs.length (QY bs)) (hown2:w.ownsRow B2 5 1 v2 ys.length (QY ys)) (hn:bs.length+ys.length≤140737488355328) (hga:g<W0.heap.size) (hf:FR B g W0 w) (hs:a.eval s=v) (hx:a.eval x=v2)
  (h:∀p m c w',w'.ownsRow B 5 1 (V p m c) (bs++ys).length (QY (bs++ys))→CA g #[v] 137 w'→FR B g W0 w'→FR B g W0 (w'.setCell ⟨g,0,none⟩ (V p m c))→wpList QP ops Q rest (a.put o.dst (V p m c)) w') :
  wpList QP ops Q (o::rest) a w:=by
 refine wpList_plain hgd fun K hK=>?_
 have key:∃v' w',(Builtin.append_ #[52,52] o.type #[v,v2]).run QP w=.ok v' w'∧w'.ownsRow B 5 1 v' (bs++ys).length (QY (bs++ys))∧w.grownBy w' v.ownBlock∧∀j,v'.ownBlock=some j→v.ownBlock=some j∨w.heap.size≤j:=by
  rcases hown2.2 with ⟨rfl,h2⟩|⟨g2,cap,cur,rfl,hr⟩
  ·obtain ⟨i0,hi,hz0,hz1,hz2⟩:=info_parts info5
   obtain rfl:ys=[]:=List.eq_nil_of_length_eq_zero h2
   exact ⟨v,w,run_append_owned_none (P:=QP) (w:=w) B 52 o.type 5 i0 1 Tryz.underlying52 hi v bs.length (QY bs) hown,by rw[List.append_nil];exact hown,⟨rfl,rfl,rfl,Ql _,fun _ _ _=>rfl⟩,fun j e=>.inl e⟩
  obtain ⟨v',w',h1,h2,h3,h4⟩:=run_app5 w B o.type v bs.length (QY bs) hown ⟨g2,0,none⟩ ys.length cap (QY ys) (by rw[Lib.byteCells_length]) (own_cells hown2) (byteCells_one ys) hn hBw
  exact ⟨v',w',h1,by rw[QA,Lib.byteCells_append];exact h2,h3,h4⟩
 obtain ⟨v',w',hrun,r1,r2,r3⟩:=key
 obtain ⟨p,m,c,rfl⟩:=own_slice r1
 have hne:=Lib.ownBlock_ne hown hc (by decide)
 have hc2:=WR.set_row hc hown r2
 have hf2:=hf.trans (FR.grown (g:=g) hown r2 (hc.at rfl) hne)
 unfold Oper.wp
 simp[execOp,ho,resolve,invoke,builtin,hs,hx,hrun,Result.andThen]
 exact hK _ _ (h _ _ _ _ r1 hc2 hf2 (hf2.put (hc2.at (v:=v) rfl) _ (own_put hf hga (hc.at rfl) r3)))
theorem sized_wm (B g k:Nat) (eg:∀args w,(callFunc k args).run QP w=.ok (.enter k args) w) (cs:Array Value) (X:List UInt8) (w:World) (hX:X.length≤2000000000000)
  (hc:∀B' W,B≤B'→FR B g w W→WR B' g [] W→Calls QP k cs W fun e w'=>e=Qr (.tuple #[])∧WR B' g X w'∧FR B' g W w') :
  WM B g 187 #[Qp (some ⟨g,0,none⟩),.func (.func k) #[] cs] (szL X) w:=by
 intro bs hw hn
 have HGA:=hid hw.lt
 obtain ⟨hB,u,hcu,ho⟩:=hw
 obtain ⟨pu,nu,cu,rfl⟩:=own_slice ho
 have HO:=hid ho
 have HBW:=hid hB
 have HCU:=hid hcu
 have HC:=hid hc
 have HX:=hid hX
 have HN:=hid hn
 have HUX:=hid (uI_len X.length)
 have y0:=HCU.out.at (k:=0) (v:=V pu nu cu) rfl
 have y1:=HCU.out.free 0
 have HC1:Hid (CA g #[V none 0 0] 137 (w.setCell ⟨g,0,none⟩ (V none 0 0))):=hid (HCU.out.set (k:=0) (V none 0 0))
 have HK1:=hid (KP.set w g 0 (V none 0 0))
 have HF1:=hid ((FR.refl B g w).put (HCU.out.at (v:=V pu nu cu) rfl) (V none 0 0) (fun k _ _ e=>by cases e))
 have HO1:=hid (row_keep HO.out HK1.out (fun k hk e=>Lib.ownBlock_ne HO.out HCU.out (by decide) (by rw[hk];exact e.symm)))
 have HS1:=hid (show (w.setCell ⟨g,0,none⟩ (V none 0 0)).heap.size=w.heap.size by simp[World.setCell])
 clear ho hB hcu hc hX hn HO
 go_enter Tryz.func187,Tryz.ntmps187
 go_upto_region 2 with fail
 clear y0 y1
 generalize w.setCell ⟨g,0,none⟩ (V none 0 0)=w1 at *
 have HCC:=hid (HC.out w1.heap.size w1 (by rw[HS1.out];exact HBW.out) HF1.out ⟨Ql _,_,HC1.out,World.ownsRow_nil _ _ _ _⟩)
 go_upto_region 3 with (go_at_fn k;(with_reducible refine HCC.out.mono ?_);rintro e w2 ⟨rfl,⟨hb2,u2,hc2,ho2⟩,hf2⟩;obtain ⟨p2,n2,c2,rfl⟩:=own_slice ho2;have HC2:=hid hc2;have HO2:=hid ho2;have HF2:=hid hf2;have hn2:=row_len ho2;clear hb2 hc2 ho2 hf2)
 subst hn2
 have HKP:=hid (FR.kp HF2.out)
 have HO3:=hid (row_keep HO1.out HKP.out (fun j hj e=>Lib.ownBlock_ne HO1.out HC1.out (by decide) (by rw[hj];exact e.symm)))
 have y0:=HC2.out.at (k:=0) (v:=V p2 X.length c2) rfl
 have y1:=HC2.out.free 0
 have HF3:=hid (HF1.out.trans (FR.up (B:=B) HF2.out (Ql _)))
 have hsz:=HF3.out.size
 have hB2:B≤w2.heap.size:=Qk HBW.out hsz
 have HKS:=hid (KP.set w2 g 0 (V pu nu cu))
 have HW3:=hid (show WR B g bs (w2.setCell ⟨g,0,none⟩ (V pu nu cu)) from ⟨by simpa[World.setCell]using hB2,_,HC2.out.set (k:=0) _,row_keep HO3.out HKS.out (fun j hj e=>Lib.ownBlock_ne HO3.out HC2.out (by decide) (by rw[hj];exact e.symm))⟩)
 have HX3:=hid (row_keep HO2.out HKS.out (fun j hj e=>Lib.ownBlock_ne HO2.out HC2.out (by decide) (by rw[hj];exact e.symm)))
 have HF4:=hid (HF3.out.put (HC2.out.at (v:=V p2 X.length c2) rfl) (V pu nu cu) (fun j _ hn=>hn _ (HCU.out.at rfl)))
 have HLT:=hid (fun j (e:(Value.slice pu nu cu).ownBlock=some j)=>(HO1.out.lt j e).2)
 have HGE:=hid (fun j (e:(Value.slice p2 X.length c2).ownBlock=some j)=>(HO2.out.lt j e))
 have HS3:=hid (show (w2.setCell ⟨g,0,none⟩ (V pu nu cu)).heap.size=w2.heap.size by simp[World.setCell])
 go_upto_region 5 with fail
 clear y0 y1 hsz hB2 HF3 HKS HKP
 have HY3:=hid (show CA g #[V pu nu cu] 137 (w2.setCell ⟨g,0,none⟩ (V pu nu cu)) from HC2.out.set (k:=0) _)
 generalize w2.setCell ⟨g,0,none⟩ (V pu nu cu)=w3 at *
 have HU:=hid (u_says B g bs X.length w3 HW3.out.1 HW3.out (by have:=HN.out;omega))
 go_upto_region 6 with (go_at_call 105;(with_reducible refine HU.out.mono ?_);rintro e w4 ⟨rfl,hw4,hf4⟩;have HW4:=hid hw4;have HF5:=hid hf4;clear hw4 hf4)
 have HX4:=hid (row_nw HX3.out HF5.out (fun j hj=>⟨fun e=>Lib.ownBlock_ne HX3.out HY3.out (by decide) (by rw[hj,e]),by rw[HS3.out];exact (HGE.out j hj).2,.inr (.inr ⟨HY3.out.lt,fun u hu=>by
  rw[HY3.out.at (v:=V pu nu cu) rfl]at hu
  obtain rfl:=Option.some.inj hu
  intro e
  have h1:=HLT.out j e
  have h2:=(HGE.out j hj).1
  omega⟩)⟩))
 obtain ⟨hb4,u4,hc4,ho4⟩:=HW4.out
 obtain ⟨p4,n4,c4,rfl⟩:=own_slice ho4
 have HC4:=hid hc4
 have HO4:=hid ho4
 have HB4:=hid hb4
 have y0:=HC4.out.at (k:=0) (v:=V p4 n4 c4) rfl
 have y1:=HC4.out.free 0
 have HF6:=hid (HF4.out.trans HF5.out)
 clear hb4 hc4 ho4
 have HLE:=hid (show (bs++uI X.length).length+X.length≤140737488355328 by
  have h1:=HN.out
  have h2:=HX.out
  have h3:=HUX.out
  simp only[QA]
  omega)
 go_wp2_with (at_builtin;refine append_rowF rfl _ _ rfl B g _ _ _ _ _ w HB4.out HC4.out HO4.out HX4.out HLE.out HGA.out HF6.out rfl rfl ?_;intro p5 m5 c5 w5 ho5 hc5 hf5 hf6;have y0:=hc5.at (k:=0) (v:=V p4 n4 c4) rfl;have y1:=hc5.free 0;have HW5:=hid (WR.put (bs:=bs++uI X.length++X) (Qk HBW.out hf5.size) hc5 ho5);have HF7:=hid hf6;clear ho5 hc5 hf5 hf6)
 (first|go_end0|refine bodyPost_ret (results_none rfl _ _ _) rfl ?_)
 exact ⟨rfl,by rw[szL,←QS];exact HW5.out,HF7.out⟩
theorem section_wm (B g k:Nat) (eg:∀args w,(callFunc k args).run QP w=.ok (.enter k args) w) (cs:Array Value) (id:Int) (X:List UInt8) (w:World) (hX:X.length≤2000000000000)
  (hc:∀B' W,B≤B'→FR B g w W→WR B' g [] W→Calls QP k cs W fun e w'=>e=Qr (.tuple #[])∧WR B' g X w'∧FR B' g W w') :
  ∀bs,WR B g bs w→bs.length≤90000000000000→Calls QP 118 #[Qp (some ⟨g,0,none⟩),I J id,.func (.func k) #[] cs] w fun e w'=>e=Qr (.tuple #[])∧WR B g (bs++byI id::szL X) w'∧FR B g w w':=by
 intro bs hw hn
 have HW:=hid hw
 have HN1:=hid (show bs.length+([id]:List Int).length≤140737488355000 by simp only[QC,QN];omega)
 have HN2:=hid (show (bs++([id]:List Int).map byI).length≤100000000000000 by simp only[QA,QM,QC,QN];omega)
 have HS:=fun (W:World) (h:FR B g w W) (bs:List UInt8) (h2:WR B g bs W) (h3:bs.length≤100000000000000)=>hid (sized_wm B g k eg cs X W hX (fun B' W' h1 h2 h3=>hc B' W' h1 (h.trans h2) h3) bs h2 h3)
 clear hw hn hc hX
 go_enter Tryz.func118,Tryz.ntmps118
 go_wp2_with (first
  |(go_at_call 169;(with_reducible refine (bytes_says B g bs [id] _ _ (HW.out.alloc _) (LT.one id 1 HW.out.lt) HN1.out).mono ?_);rintro e w1 ⟨rfl,hw1,hf1⟩;have HW1:=hid hw1;have HF1:=hid (((FR.refl B g w).alloc _).trans hf1);clear hw1 hf1)
  |(go_at_call 187;(with_reducible refine (HS _ HF1.out _ HW1.out HN2.out).out.mono ?_);rintro e w2 ⟨rfl,hw2,hf2⟩;have HW2:=hid hw2;have HF2:=hid (HF1.out.trans hf2);clear hw2 hf2))
 (first|go_end0|refine bodyPost_ret (results_none rfl _ _ _) rfl ?_)
 refine ⟨rfl,?_,HF2.out⟩
 have:=HW2.out
 simpa using this
theorem name_of (B g:Nat) (bs:List UInt8) (s:ByteArray) (y:List UInt8) (m:Nat) (hm:m=y.length) (w:World) (hw:WR B g bs w) (hn:bs.length+m≤140737488355000)
  (HU:∀W,Hid (Calls QP 228 #[V none 0 0,Qs s] W fun e w'=>∃g2 c2,e=Qr (V (some ⟨g2,0,none⟩) m c2)∧w'.ownsRow W.heap.size 5 1 (V (some ⟨g2,0,none⟩) m c2) m (QY y)∧Below W.heap.size W w')) :
  Calls QP 173 #[Qp (some ⟨g,0,none⟩),Qs s] w fun e w'=>e=Qr (.tuple #[])∧WR B g (bs++y) w'∧FR B g w w':=by
 have HGA:=hid hw.lt
 obtain ⟨hBg,u,hc,ho⟩:=hw
 obtain ⟨pu,nu,cu,rfl⟩:=own_slice ho
 have HN2:=hid (show (bs.length+m)*1≤140737488355328 by omega)
 have HBW:=hid hBg
 have HM:=hid hm
 have HC0:=hid hc
 have HO0:=hid ho
 clear hBg hc ho hm hn
 go_enter Tryz.func173,Tryz.ntmps173
 go_upto_region 0 with fail
 have hS:FR B g w w.drew:=(FR.refl B g w).drew
 have HC:Hid (CA g #[V pu nu cu] 137 w.drew):=HC0
 have HO:Hid (w.drew.ownsRow B 5 1 (V pu nu cu) bs.length (QY bs)):=HO0
 clear HC0 HO0
 refine wp_region_held_drew (S:=fun W=>FR B g w W) (by kernel_rfl) hS (fun _=>?_)
 generalize w.drew=W at *
 refine zt 0 (Qp (some ⟨g,0,none⟩)) rfl ?_ ?_
 ·(intro W hSw;skip;go_simp;try (with_reducible rfl))
 try simp only[Qu,sl2,sl0,sl1]
 refine zt 1 (Qp (some ⟨g,0,none⟩)) rfl ?_ ?_
 ·(intro W hSw;skip;go_simp;try (with_reducible rfl))
 try simp only[Qu,sl2,sl0,sl1]
 refine zt 2 (Qp (some ⟨g,0,none⟩)) rfl ?_ ?_
 ·(intro W hSw;skip;go_simp;try (with_reducible rfl))
 try simp only[Qu,sl2,sl0,sl1]
 refine zt 3 (Qp (some ⟨g,0,none⟩)) rfl ?_ ?_
 ·(intro W hSw;skip;go_simp;try (with_reducible rfl))
 try simp only[Qu,sl2,sl0,sl1]
 refine zt 5 (Qs s) rfl ?_ ?_
 ·(intro W hSw;skip;go_simp;try (with_reducible rfl))
 try simp only[Qu,sl2,sl0,sl1]
 refine zm [4,6] ?_
 refine zc rfl (fun K hK=>?_) ?_
 ·have z0:=HC.out.at (k:=0) (v:=V pu nu cu) rfl
  go_simp
  clear z0
  refine hK.out _ _ hS (fun _=>?_)
  clear hK K
  try simp only[Qu,sl2,sl0,sl1]
  refine zr 6 rfl (fun K hK=>?_)
  go_simp
  go_at_call 228
  (with_reducible refine (HU W).out.mono ?_)
  rintro e W1 ⟨g2,c2,rfl,ho2,hb⟩
  replace HO:=hid (own_kept HO.out hb)
  replace HC:=Qe HC hb
  replace hS:=hS.trans (FR.of hb)
  have HO2:=hid ho2
  clear hb ho2
  refine hK.out _ _ hS (fun _=>?_)
  clear hK K
  try simp only[Qu,sl2,sl0,sl1]
  refine zr 7 rfl (fun K hK=>?_)
  refine step_append_own rfl (.tmp 8) (.tmp 10) rfl B (V pu nu cu) bs.length (QY bs) rfl HO.out ⟨g2,0,none⟩ m c2 (QY y) rfl (by rw[Lib.byteCells_length,HM.out]) (own_cells HO2.out) (byteCells_one y) (by have:=HN2.out;omega) (Qk HBW.out hS.size) ?_
  intro v3 W2 ho3 hg3 hwh
  have HPV:=hid (own_put hS HGA.out (HC.out.at (v:=V pu nu cu) rfl) hwh)
  replace hS:=hS.trans (FR.grown (g:=g) HO.out hg3 (HC.out.at rfl) (Lib.ownBlock_ne HO.out HC.out (by decide)))
  replace HC:=hid (WR.set_row HC.out HO.out hg3)
  clear hwh HO HO2
  obtain ⟨p3,n3,c3,rfl⟩:=own_slice ho3
  have HO3:=hid ho3
  clear ho3 hg3
  refine hK.out _ _ hS (fun _=>?_)
  clear hK K
  try simp only[Qu,sl2,sl0,sl1]
  refine zt 8 (Qp (some ⟨g,0,none⟩)) rfl ?_ ?_
  ·(intro W hSw;skip;go_simp;try (with_reducible rfl))
  try simp only[Qu,sl2,sl0,sl1]
  refine zt 9 (Qp (some ⟨g,0,none⟩)) rfl ?_ ?_
  ·(intro W hSw;skip;go_simp;try (with_reducible rfl))
  try simp only[Qu,sl2,sl0,sl1]
  refine zr 10 rfl (fun K hK=>?_)
  have z0:=HC.out.at (k:=0) (v:=V pu nu cu) rfl
  have z1:=HC.out.free 0
  go_simp
  clear z0 z1
  have HWR:=hid (WR.put (bs:=bs++y) (Qk HBW.out hS.size) HC.out (by rw[QA,←HM.out,Lib.byteCells_append];exact HO3.out))
  replace hS:=hS.put (HC.out.at (v:=V pu nu cu) rfl) (V p3 n3 c3) HPV.out
  clear HC HO3
  generalize W2.setCell ⟨g,0,none⟩ (V p3 n3 c3)=W3 at *
  refine hK.out _ _ hS (fun _=>?_)
  clear hK K
  try simp only[Qu,sl2,sl0,sl1]
  refine wpAnyH_done (by kernel_rfl) ?_ _
  have HF:=hid hS
  clear hS
  go_wp2
  (first|go_end0|refine bodyPost_ret (results_none rfl _ _ _) rfl ?_)
  exact ⟨rfl,HWR.out,HF.out⟩
 refine zc rfl (fun K hK=>?_) ?_
 ·go_simp
  go_at_call 228
  (with_reducible refine (HU W).out.mono ?_)
  rintro e W1 ⟨g2,c2,rfl,ho2,hb⟩
  replace HO:=hid (own_kept HO.out hb)
  replace HC:=Qe HC hb
  replace hS:=hS.trans (FR.of hb)
  have HO2:=hid ho2
  clear hb ho2
  refine hK.out _ _ hS (fun _=>?_)
  clear hK K
  try simp only[Qu,sl2,sl0,sl1]
  refine zr 4 rfl (fun K hK=>?_)
  have z0:=HC.out.at (k:=0) (v:=V pu nu cu) rfl
  go_simp
  clear z0
  refine hK.out _ _ hS (fun _=>?_)
  clear hK K
  try simp only[Qu,sl2,sl0,sl1]
  refine zr 7 rfl (fun K hK=>?_)
  refine step_append_own rfl (.tmp 8) (.tmp 10) rfl B (V pu nu cu) bs.length (QY bs) rfl HO.out ⟨g2,0,none⟩ m c2 (QY y) rfl (by rw[Lib.byteCells_length,HM.out]) (own_cells HO2.out) (byteCells_one y) (by have:=HN2.out;omega) (Qk HBW.out hS.size) ?_
  intro v3 W2 ho3 hg3 hwh
  have HPV:=hid (own_put hS HGA.out (HC.out.at (v:=V pu nu cu) rfl) hwh)
  replace hS:=hS.trans (FR.grown (g:=g) HO.out hg3 (HC.out.at rfl) (Lib.ownBlock_ne HO.out HC.out (by decide)))
  replace HC:=hid (WR.set_row HC.out HO.out hg3)
  clear hwh HO HO2
  obtain ⟨p3,n3,c3,rfl⟩:=own_slice ho3
  have HO3:=hid ho3
  clear ho3 hg3
  refine hK.out _ _ hS (fun _=>?_)
  clear hK K
  try simp only[Qu,sl2,sl0,sl1]
  refine zt 8 (Qp (some ⟨g,0,none⟩)) rfl ?_ ?_
  ·(intro W hSw;skip;go_simp;try (with_reducible rfl))
  try simp only[Qu,sl2,sl0,sl1]
  refine zt 9 (Qp (some ⟨g,0,none⟩)) rfl ?_ ?_
  ·(intro W hSw;skip;go_simp;try (with_reducible rfl))
  try simp only[Qu,sl2,sl0,sl1]
  refine zr 10 rfl (fun K hK=>?_)
  have z0:=HC.out.at (k:=0) (v:=V pu nu cu) rfl
  have z1:=HC.out.free 0
  go_simp
  clear z0 z1
  have HWR:=hid (WR.put (bs:=bs++y) (Qk HBW.out hS.size) HC.out (by rw[QA,←HM.out,Lib.byteCells_append];exact HO3.out))
  replace hS:=hS.put (HC.out.at (v:=V pu nu cu) rfl) (V p3 n3 c3) HPV.out
  clear HC HO3
  generalize W2.setCell ⟨g,0,none⟩ (V p3 n3 c3)=W3 at *
  refine hK.out _ _ hS (fun _=>?_)
  clear hK K
  try simp only[Qu,sl2,sl0,sl1]
  refine wpAnyH_done (by kernel_rfl) ?_ _
  have HF:=hid hS
  clear hS
  go_wp2
  (first|go_end0|refine bodyPost_ret (results_none rfl _ _ _) rfl ?_)
  exact ⟨rfl,HWR.out,HF.out⟩
 exact zn
theorem uI_nat (n:Nat) (h:n<18446744073709551616):uI n=ulist n:=by unfold uI;rw[show ((n:Int)%18446744073709551616).toNat=n by omega]
theorem strL_len (s:ByteArray):(strL s).length≤10+s.size:=by
 have:=uI_len s.size
 simp only[strL,QA]
 have:s.data.toList.length=s.size:=by simp
 omega
theorem name_says (B g:Nat) (bs:List UInt8) (s:ByteArray) (w:World) (hs:s.size≤1000) (hw:WR B g bs w) (hn:bs.length≤130737488355000) :
  Calls QP 173 #[Qp (some ⟨g,0,none⟩),Qs s] w fun e w'=>e=Qr (.tuple #[])∧WR B g (bs++strL s) w'∧FR B g w w':=by
 have hl:=strL_len s
 refine name_of B g bs s (strL s) (strL s).length rfl w hw (by omega) (fun W=>?_)
 refine (Name_in 0 (V none 0 0) [] s W (.inl (.inl ⟨rfl,rfl⟩)) (Qz _) (by simp;omega)).mono ?_
 rintro e w' ⟨v,rfl,ho,hb⟩
 rw[List.nil_append,←uI_nat s.size (by omega)]at ho
 obtain ⟨g2,c2,rfl⟩:=own_at ho (by
  have:=ulist_pos s.size
  rw[←uI_nat s.size (by omega)]at this
  simp only[QA]
  omega)
 exact ⟨g2,c2,rfl,ho,hb⟩
theorem by_96:byI 96=96:=rfl
theorem flag_says (B g:Nat) (bs:List UInt8) (b:Bool) (w:World) (hw:WR B g bs w) (hn:bs.length+10≤140737488355000) :
  Calls QP 182 #[Qp (some ⟨g,0,none⟩),G b] w fun e w'=>e=Qr (.tuple #[])∧WR B g (bs++[if b=true then 1 else 0]) w'∧FR B g w w':=by
 have HW0:=hid hw
 have HF0:=hid (FR.refl B g w)
 have HNa:=hid (show bs.length+([0]:List Int).length≤140737488355000 by simp only[QC,QN];omega)
 have HNb:=hid (show bs.length+([1]:List Int).length≤140737488355000 by simp only[QC,QN];omega)
 clear hw hn
 cases b with
 |false =>
  go_enter Tryz.func182,Tryz.ntmps182
  go_wp2_with (go_at_call 169;(with_reducible refine (bytes_says B g _ [0] _ _ (HW0.out.alloc _) (LT.one (0) 1 HW0.out.lt) HNa.out).mono ?_);rintro e w1 ⟨rfl,hw',hf⟩;have HW1:=hid hw';have HF1:=hid ((HF0.out.alloc _).trans hf);clear hw' hf)
  (first|go_end0|refine bodyPost_ret (results_none rfl _ _ _) rfl ?_)
  exact ⟨rfl,HW1.out,HF1.out⟩
 |true =>
  go_enter Tryz.func182,Tryz.ntmps182
  go_wp2_with (go_at_call 169;(with_reducible refine (bytes_says B g _ [1] _ _ (HW0.out.alloc _) (LT.one (1) 1 HW0.out.lt) HNb.out).mono ?_);rintro e w1 ⟨rfl,hw',hf⟩;have HW1:=hid hw';have HF1:=hid ((HF0.out.alloc _).trans hf);clear hw' hf)
  (first|go_end0|refine bodyPost_ret (results_none rfl _ _ _) rfl ?_)
  exact ⟨rfl,HW1.out,HF1.out⟩
theorem limits_false (B g:Nat) (bs:List UInt8) (mn mx:Int) (w:World) (hw:WR B g bs w) (hn:bs.length≤100000000000000) :
  Calls QP 111 #[Qp (some ⟨g,0,none⟩),.agg #[I J mn,I J mx,G false]] w fun e w'=>e=Qr (.tuple #[])∧WR B g (bs++(limL mn mx false)) w'∧FR B g w w':=by
 have HW0:=hid (hw.alloc (Qc #[I J mn,I J mx,G false] 70))
 have HF0:=hid ((FR.refl B g w).alloc (Qc #[I J mn,I J mx,G false] 70))
 have HX0:=hid (CA.new w #[I J mn,I J mx,G false] 70)
 have HNE:=hid (show w.heap.size≠g by have:=hw.lt;omega)
 have y0:=HX0.out.at (k:=0) (v:=I J mn) rfl
 have y1:=HX0.out.at (k:=1) (v:=I J mx) rfl
 have y2:=HX0.out.at (k:=2) (v:=G false) rfl
 have HN0:=hid (show (bs).length+10≤140737488355000 by
  have q_6864222:=uI_len (mn)
  have q_32811179:=uI_len (mx)
  (try simp only[QA,QC,QN,QM])
  omega)
 have HN1:=hid (show (bs++[if false=true then 1 else 0]).length+10≤140737488355000 by
  have q_6864222:=uI_len (mn)
  have q_32811179:=uI_len (mx)
  (try simp only[QA,QC,QN,QM])
  omega)
 clear hw hn
 go_enter Tryz.func111,Tryz.ntmps111
 go_upto_region 1 with fail
 generalize w.alloc (Qc #[I J mn,I J mx,G false] 70)=w0 at *
 generalize w.heap.size=gx at *
 go_wp2_with (first
  |(go_at_call 182;(with_reducible refine (flag_says B g _ false _ HW0.out HN0.out).mono ?_);rintro e w1 ⟨rfl,hw',hf⟩;have HW1:=hid hw';have HF1:=hid ((HF0.out).trans hf);have HX1:=hid ((HX0.out).fr hf (by decide) HNE.out);clear y0 y1 y2;have y0:=HX1.out.at (k:=0) (v:=I J mn) rfl;have y1:=HX1.out.at (k:=1) (v:=I J mx) rfl;have y2:=HX1.out.at (k:=2) (v:=G false) rfl;clear hw' hf)
  |(go_at_call 105;(with_reducible refine (u_says B g _ (mn) _ HW1.out.base HW1.out HN1.out).mono ?_);rintro e w2 ⟨rfl,hw',hf⟩;have HW2:=hid hw';have HF2:=hid ((HF1.out).trans hf);have HX2:=hid ((HX1.out).fr hf (by decide) HNE.out);clear y0 y1 y2;have y0:=HX2.out.at (k:=0) (v:=I J mn) rfl;have y1:=HX2.out.at (k:=1) (v:=I J mx) rfl;have y2:=HX2.out.at (k:=2) (v:=G false) rfl;clear hw' hf))
 (first|go_end0|refine bodyPost_ret (results_none rfl _ _ _) rfl ?_)
 refine ⟨rfl,?_,HF2.out⟩
 have:=HW2.out
 simpa[limL]using this
theorem limits_true (B g:Nat) (bs:List UInt8) (mn mx:Int) (w:World) (hw:WR B g bs w) (hn:bs.length≤100000000000000) :
  Calls QP 111 #[Qp (some ⟨g,0,none⟩),.agg #[I J mn,I J mx,G true]] w fun e w'=>e=Qr (.tuple #[])∧WR B g (bs++(limL mn mx true)) w'∧FR B g w w':=by
 have HW0:=hid (hw.alloc (Qc #[I J mn,I J mx,G true] 70))
 have HF0:=hid ((FR.refl B g w).alloc (Qc #[I J mn,I J mx,G true] 70))
 have HX0:=hid (CA.new w #[I J mn,I J mx,G true] 70)
 have HNE:=hid (show w.heap.size≠g by have:=hw.lt;omega)
 have y0:=HX0.out.at (k:=0) (v:=I J mn) rfl
 have y1:=HX0.out.at (k:=1) (v:=I J mx) rfl
 have y2:=HX0.out.at (k:=2) (v:=G true) rfl
 have HN0:=hid (show (bs).length+10≤140737488355000 by
  have q_6864222:=uI_len (mn)
  have q_32811179:=uI_len (mx)
  (try simp only[QA,QC,QN,QM])
  omega)
 have HN1:=hid (show (bs++[if true=true then 1 else 0]).length+10≤140737488355000 by
  have q_6864222:=uI_len (mn)
  have q_32811179:=uI_len (mx)
  (try simp only[QA,QC,QN,QM])
  omega)
 have HN2:=hid (show (bs++[if true=true then 1 else 0]++uI mn).length+10≤140737488355000 by
  have q_6864222:=uI_len (mn)
  have q_32811179:=uI_len (mx)
  (try simp only[QA,QC,QN,QM])
  omega)
 clear hw hn
 go_enter Tryz.func111,Tryz.ntmps111
 go_upto_region 1 with fail
 generalize w.alloc (Qc #[I J mn,I J mx,G true] 70)=w0 at *
 generalize w.heap.size=gx at *
 go_wp2_with (first
  |(go_at_call 182;(with_reducible refine (flag_says B g _ true _ HW0.out HN0.out).mono ?_);rintro e w1 ⟨rfl,hw',hf⟩;have HW1:=hid hw';have HF1:=hid ((HF0.out).trans hf);have HX1:=hid ((HX0.out).fr hf (by decide) HNE.out);clear y0 y1 y2;have y0:=HX1.out.at (k:=0) (v:=I J mn) rfl;have y1:=HX1.out.at (k:=1) (v:=I J mx) rfl;have y2:=HX1.out.at (k:=2) (v:=G true) rfl;clear hw' hf)
  |(go_at_call 105;(with_reducible refine (u_says B g _ (mn) _ HW1.out.base HW1.out HN1.out).mono ?_);rintro e w2 ⟨rfl,hw',hf⟩;have HW2:=hid hw';have HF2:=hid ((HF1.out).trans hf);have HX2:=hid ((HX1.out).fr hf (by decide) HNE.out);clear y0 y1 y2;have y0:=HX2.out.at (k:=0) (v:=I J mn) rfl;have y1:=HX2.out.at (k:=1) (v:=I J mx) rfl;have y2:=HX2.out.at (k:=2) (v:=G true) rfl;clear hw' hf)
  |(go_at_call 105;(with_reducible refine (u_says B g _ (mx) _ HW2.out.base HW2.out HN2.out).mono ?_);rintro e w3 ⟨rfl,hw',hf⟩;have HW3:=hid hw';have HF3:=hid ((HF2.out).trans hf);have HX3:=hid ((HX2.out).fr hf (by decide) HNE.out);clear y0 y1 y2;have y0:=HX3.out.at (k:=0) (v:=I J mn) rfl;have y1:=HX3.out.at (k:=1) (v:=I J mx) rfl;have y2:=HX3.out.at (k:=2) (v:=G true) rfl;clear hw' hf))
 (first|go_end0|refine bodyPost_ret (results_none rfl _ _ _) rfl ?_)
 refine ⟨rfl,?_,HF3.out⟩
 have:=HW3.out
 simpa[limL]using this
theorem limits_says (B g:Nat) (bs:List UInt8) (mn mx:Int) (h:Bool) (w:World) (hw:WR B g bs w) (hn:bs.length≤100000000000000) :
  Calls QP 111 #[Qp (some ⟨g,0,none⟩),.agg #[I J mn,I J mx,G h]] w fun e w'=>e=Qr (.tuple #[])∧WR B g (bs++limL mn mx h) w'∧FR B g w w':=by
 cases h
 ·exact limits_false B g bs mn mx w hw hn
 exact limits_true B g bs mn mx w hw hn
theorem limL_len (mn mx:Int) (h:Bool):(limL mn mx h).length≤21:=by
 have h1:=uI_len mn
 have h2:=uI_len mx
 unfold limL
 split<;>simp only[QC,QA]<;>omega
theorem ttype_says (B g:Nat) (bs:List UInt8) (r mn mx:Int) (h:Bool) (w:World) (hw:WR B g bs w) (hn:bs.length≤50000000000000) :
  Calls QP 108 #[Qp (some ⟨g,0,none⟩),.agg #[I J r,I J mn,I J mx,G h]] w fun e w'=>e=Qr (.tuple #[])∧WR B g (bs++(tabL r mn mx h)) w'∧FR B g w w':=by
 have HW0:=hid (hw.alloc (Qc #[I J r,I J mn,I J mx,G h] 72))
 have HF0:=hid ((FR.refl B g w).alloc (Qc #[I J r,I J mn,I J mx,G h] 72))
 have HX0:=hid (CA.new w #[I J r,I J mn,I J mx,G h] 72)
 have HNE:=hid (show w.heap.size≠g by have:=hw.lt;omega)
 have y0:=HX0.out.at (k:=0) (v:=I J r) rfl
 have y1:=HX0.out.at (k:=1) (v:=I J mn) rfl
 have y2:=HX0.out.at (k:=2) (v:=I J mx) rfl
 have y3:=HX0.out.at (k:=3) (v:=G h) rfl
 have HN0:=hid (show (bs).length+([r]:List Int).length≤140737488355000 by
  (try simp only[QA,QC,QN,QM])
  omega)
 have HN1:=hid (show (bs++List.map byI [r]).length≤100000000000000 by
  (try simp only[QA,QC,QN,QM])
  omega)
 clear hw hn
 go_enter Tryz.func108,Tryz.ntmps108
 go_upto_region 1 with fail
 generalize w.alloc (Qc #[I J r,I J mn,I J mx,G h] 72)=w0 at *
 generalize w.heap.size=gx at *
 go_wp2_with (first
  |(go_at_call 169;(with_reducible refine (bytes_says B g _ [r] _ _ (HW0.out.alloc _) (LT.one (r) 1 HW0.out.lt) HN0.out).mono ?_);rintro e w1 ⟨rfl,hw',hf⟩;have HW1:=hid hw';have HF1:=hid ((HF0.out.alloc _).trans hf);have HX1:=hid ((HX0.out.alloc _).fr hf (by decide) HNE.out);clear y0 y1 y2 y3;have y0:=HX1.out.at (k:=0) (v:=I J r) rfl;have y1:=HX1.out.at (k:=1) (v:=I J mn) rfl;have y2:=HX1.out.at (k:=2) (v:=I J mx) rfl;have y3:=HX1.out.at (k:=3) (v:=G h) rfl;clear hw' hf)
  |(go_at_call 111;(with_reducible refine (limits_says B g _ mn mx h _ HW1.out HN1.out).mono ?_);rintro e w2 ⟨rfl,hw',hf⟩;have HW2:=hid hw';have HF2:=hid ((HF1.out).trans hf);have HX2:=hid ((HX1.out).fr hf (by decide) HNE.out);clear y0 y1 y2 y3;have y0:=HX2.out.at (k:=0) (v:=I J r) rfl;have y1:=HX2.out.at (k:=1) (v:=I J mn) rfl;have y2:=HX2.out.at (k:=2) (v:=I J mx) rfl;have y3:=HX2.out.at (k:=3) (v:=G h) rfl;clear hw' hf))
 (first|go_end0|refine bodyPost_ret (results_none rfl _ _ _) rfl ?_)
 refine ⟨rfl,?_,HF2.out⟩
 have:=HW2.out
 simpa[tabL]using this
theorem gtype_says (B g:Nat) (bs:List UInt8) (t:Int) (m:Bool) (w:World) (hw:WR B g bs w) (hn:bs.length≤100000000000000) :
  Calls QP 174 #[Qp (some ⟨g,0,none⟩),.agg #[I J t,G m]] w fun e w'=>e=Qr (.tuple #[])∧WR B g (bs++(gloL t m)) w'∧FR B g w w':=by
 have HW0:=hid (hw.alloc (Qc #[I J t,G m] 44))
 have HF0:=hid ((FR.refl B g w).alloc (Qc #[I J t,G m] 44))
 have HX0:=hid (CA.new w #[I J t,G m] 44)
 have HNE:=hid (show w.heap.size≠g by have:=hw.lt;omega)
 have y0:=HX0.out.at (k:=0) (v:=I J t) rfl
 have y1:=HX0.out.at (k:=1) (v:=G m) rfl
 have HN0:=hid (show (bs).length+([t]:List Int).length≤140737488355000 by
  (try simp only[QA,QC,QN,QM])
  omega)
 have HN1:=hid (show (bs++List.map byI [t]).length+10≤140737488355000 by
  (try simp only[QA,QC,QN,QM])
  omega)
 clear hw hn
 go_enter Tryz.func174,Tryz.ntmps174
 go_upto_region 1 with fail
 generalize w.alloc (Qc #[I J t,G m] 44)=w0 at *
 generalize w.heap.size=gx at *
 go_wp2_with (first
  |(go_at_call 169;(with_reducible refine (bytes_says B g _ [t] _ _ (HW0.out.alloc _) (LT.one (t) 1 HW0.out.lt) HN0.out).mono ?_);rintro e w1 ⟨rfl,hw',hf⟩;have HW1:=hid hw';have HF1:=hid ((HF0.out.alloc _).trans hf);have HX1:=hid ((HX0.out.alloc _).fr hf (by decide) HNE.out);clear y0 y1;have y0:=HX1.out.at (k:=0) (v:=I J t) rfl;have y1:=HX1.out.at (k:=1) (v:=G m) rfl;clear hw' hf)
  |(go_at_call 182;(with_reducible refine (flag_says B g _ m _ HW1.out HN1.out).mono ?_);rintro e w2 ⟨rfl,hw',hf⟩;have HW2:=hid hw';have HF2:=hid ((HF1.out).trans hf);have HX2:=hid ((HX1.out).fr hf (by decide) HNE.out);clear y0 y1;have y0:=HX2.out.at (k:=0) (v:=I J t) rfl;have y1:=HX2.out.at (k:=1) (v:=G m) rfl;clear hw' hf))
 (first|go_end0|refine bodyPost_ret (results_none rfl _ _ _) rfl ?_)
 refine ⟨rfl,?_,HF2.out⟩
 have:=HW2.out
 simpa[gloL]using this
theorem ftype_says (B g:Nat) (bs:List UInt8) (a b:List Int) (pa pb:Option Addr) (ca cb L:Nat) (w:World) (hL:L≤lo B g) (ha:LI L w (V pa a.length ca) a) (hb:LI L w (V pb b.length cb) b) (ha0:a.length≤1000) (hb0:b.length≤1000) (hw:WR B g bs w) (hn:bs.length≤3000000000000) :
  Calls QP 99 #[Qp (some ⟨g,0,none⟩),.agg #[V pa a.length ca,V pb b.length cb]] w fun e w'=>e=Qr (.tuple #[])∧WR B g (bs++(mtL ⟨a,pa,ca,b,pb,cb⟩)) w'∧FR B g w w':=by
 have HTA:=hid (fun (W:World) (h:FR B g w W)=>(LT.of ha hL hw.1).fr h)
 have HTB:=hid (fun (W:World) (h:FR B g w W)=>(LT.of hb hL hw.1).fr h)
 have HLA:=hid ha0
 have HLB:=hid hb0
 have HW0:=hid (hw.alloc (Qc #[V pa a.length ca,V pb b.length cb] 67))
 have HF0:=hid ((FR.refl B g w).alloc (Qc #[V pa a.length ca,V pb b.length cb] 67))
 have HX0:=hid (CA.new w #[V pa a.length ca,V pb b.length cb] 67)
 have HNE:=hid (show w.heap.size≠g by have:=hw.lt;omega)
 have y0:=HX0.out.at (k:=0) (v:=V pa a.length ca) rfl
 have y1:=HX0.out.at (k:=1) (v:=V pb b.length cb) rfl
 have HN0:=hid (show (bs).length+([96]:List Int).length≤140737488355000 by
  have q_55068697:=uI_len (a.length)
  have q_47754713:=uI_len (b.length)
  have h1:=HLA.out
  have h2:=HLB.out
  (try simp only[QA,QC,QN,QM])
  omega)
 have HN1:=hid (show (bs++List.map byI [96]).length+40+10*a.length≤140737488355000 by
  have q_55068697:=uI_len (a.length)
  have q_47754713:=uI_len (b.length)
  have h1:=HLA.out
  have h2:=HLB.out
  (try simp only[QA,QC,QN,QM])
  omega)
 have HN2:=hid (show (bs++List.map byI [96]++(uI a.length++a.map byI)).length+40+10*b.length≤140737488355000 by
  have q_55068697:=uI_len (a.length)
  have q_47754713:=uI_len (b.length)
  have h1:=HLA.out
  have h2:=HLB.out
  (try simp only[QA,QC,QN,QM])
  omega)
 clear hw hn ha hb ha0 hb0
 go_enter Tryz.func99,Tryz.ntmps99
 go_upto_region 1 with fail
 generalize w.alloc (Qc #[V pa a.length ca,V pb b.length cb] 67)=w0 at *
 generalize w.heap.size=gx at *
 go_wp2_with (first
  |(go_at_call 169;(with_reducible refine (bytes_says B g _ [96] _ _ (HW0.out.alloc _) (LT.one (96) 1 HW0.out.lt) HN0.out).mono ?_);rintro e w1 ⟨rfl,hw',hf⟩;have HW1:=hid hw';have HF1:=hid ((HF0.out.alloc _).trans hf);have HX1:=hid ((HX0.out.alloc _).fr hf (by decide) HNE.out);clear y0 y1;have y0:=HX1.out.at (k:=0) (v:=V pa a.length ca) rfl;have y1:=HX1.out.at (k:=1) (v:=V pb b.length cb) rfl;clear hw' hf)
  |(go_at_call 170;(with_reducible refine (wtypes_says B g _ a _ _ HW1.out (HTA.out _ HF1.out) HN1.out).mono ?_);rintro e w2 ⟨rfl,hw',hf⟩;have HW2:=hid hw';have HF2:=hid ((HF1.out).trans hf);have HX2:=hid ((HX1.out).fr hf (by decide) HNE.out);clear y0 y1;have y0:=HX2.out.at (k:=0) (v:=V pa a.length ca) rfl;have y1:=HX2.out.at (k:=1) (v:=V pb b.length cb) rfl;clear hw' hf)
  |(go_at_call 170;(with_reducible refine (wtypes_says B g _ b _ _ HW2.out (HTB.out _ HF2.out) HN2.out).mono ?_);rintro e w3 ⟨rfl,hw',hf⟩;have HW3:=hid hw';have HF3:=hid ((HF2.out).trans hf);have HX3:=hid ((HX2.out).fr hf (by decide) HNE.out);clear y0 y1;have y0:=HX3.out.at (k:=0) (v:=V pa a.length ca) rfl;have y1:=HX3.out.at (k:=1) (v:=V pb b.length cb) rfl;clear hw' hf))
 (first|go_end0|refine bodyPost_ret (results_none rfl _ _ _) rfl ?_)
 refine ⟨rfl,?_,HF3.out⟩
 have:=HW3.out
 simpa[mtL,lsL,by_96]using this
theorem export_says (B g:Nat) (bs:List UInt8) (s:ByteArray) (k ix:Int) (w:World) (hs:s.size≤1000) (hw:WR B g bs w) (hn:bs.length≤3000000000000) :
  Calls QP 117 #[Qp (some ⟨g,0,none⟩),.agg #[Qs s,I J k,I J ix]] w fun e w'=>e=Qr (.tuple #[])∧WR B g (bs++(mxL ⟨s,k,ix⟩)) w'∧FR B g w w':=by
 have HS:=hid hs
 have HW0:=hid (hw.alloc (Qc #[Qs s,I J k,I J ix] 76))
 have HF0:=hid ((FR.refl B g w).alloc (Qc #[Qs s,I J k,I J ix] 76))
 have HX0:=hid (CA.new w #[Qs s,I J k,I J ix] 76)
 have HNE:=hid (show w.heap.size≠g by have:=hw.lt;omega)
 have y0:=HX0.out.at (k:=0) (v:=Qs s) rfl
 have y1:=HX0.out.at (k:=1) (v:=I J k) rfl
 have y2:=HX0.out.at (k:=2) (v:=I J ix) rfl
 have HN0:=hid (show (bs).length≤130737488355000 by
  have h1:=strL_len s
  have h2:=HS.out
  (try simp only[QA,QC,QN,QM])
  omega)
 have HN1:=hid (show (bs++strL s).length+([k]:List Int).length≤140737488355000 by
  have h1:=strL_len s
  have h2:=HS.out
  (try simp only[QA,QC,QN,QM])
  omega)
 have HN2:=hid (show (bs++strL s++List.map byI [k]).length+10≤140737488355000 by
  have h1:=strL_len s
  have h2:=HS.out
  (try simp only[QA,QC,QN,QM])
  omega)
 clear hw hn
 go_enter Tryz.func117,Tryz.ntmps117
 go_upto_region 1 with fail
 generalize w.alloc (Qc #[Qs s,I J k,I J ix] 76)=w0 at *
 generalize w.heap.size=gx at *
 go_wp2_with (first
  |(go_at_call 173;(with_reducible refine (name_says B g _ s _ HS.out HW0.out HN0.out).mono ?_);rintro e w1 ⟨rfl,hw',hf⟩;have HW1:=hid hw';have HF1:=hid ((HF0.out).trans hf);have HX1:=hid ((HX0.out).fr hf (by decide) HNE.out);clear y0 y1 y2;have y0:=HX1.out.at (k:=0) (v:=Qs s) rfl;have y1:=HX1.out.at (k:=1) (v:=I J k) rfl;have y2:=HX1.out.at (k:=2) (v:=I J ix) rfl;clear hw' hf)
  |(go_at_call 169;(with_reducible refine (bytes_says B g _ [k] _ _ (HW1.out.alloc _) (LT.one (k) 1 HW1.out.lt) HN1.out).mono ?_);rintro e w2 ⟨rfl,hw',hf⟩;have HW2:=hid hw';have HF2:=hid ((HF1.out.alloc _).trans hf);have HX2:=hid ((HX1.out.alloc _).fr hf (by decide) HNE.out);clear y0 y1 y2;have y0:=HX2.out.at (k:=0) (v:=Qs s) rfl;have y1:=HX2.out.at (k:=1) (v:=I J k) rfl;have y2:=HX2.out.at (k:=2) (v:=I J ix) rfl;clear hw' hf)
  |(go_at_call 105;(with_reducible refine (u_says B g _ (ix) _ HW2.out.base HW2.out HN2.out).mono ?_);rintro e w3 ⟨rfl,hw',hf⟩;have HW3:=hid hw';have HF3:=hid ((HF2.out).trans hf);have HX3:=hid ((HX2.out).fr hf (by decide) HNE.out);clear y0 y1 y2;have y0:=HX3.out.at (k:=0) (v:=Qs s) rfl;have y1:=HX3.out.at (k:=1) (v:=I J k) rfl;have y2:=HX3.out.at (k:=2) (v:=I J ix) rfl;clear hw' hf))
 (first|go_end0|refine bodyPost_ret (results_none rfl _ _ _) rfl ?_)
 refine ⟨rfl,?_,HF3.out⟩
 have:=HW3.out
 simpa[mxL]using this
theorem global_says (B g:Nat) (bs:List UInt8) (t:Int) (m:Bool) (f:Fo) (pf:Option Addr) (cf:Nat) (w:World) (hct:f.cnt<9223372036854775806) (hok:okE f) (hsz:f.siz≤61200000) (hs:SA (lo B g) w (V pf f.len cf) f) (hw:WR B g bs w) (hn:bs.length≤3000000000000) :
  Calls QP 114 #[Qp (some ⟨g,0,none⟩),.agg #[I J t,G m,V pf f.len cf]] w fun e w'=>e=Qr (.tuple #[])∧WR B g (bs++(mgL ⟨t,m,f,pf,cf⟩)) w'∧FR B g w w':=by
 have HCT:=hid hct
 have HOK:=hid hok
 have HSZ:=hid hsz
 have HSA:=hid (fun (W:World) (h:FR B g w W)=>(SA.below hs (h.belowL hw.1)))
 have HW0:=hid (hw.alloc (Qc #[I J t,G m,V pf f.len cf] 46))
 have HF0:=hid ((FR.refl B g w).alloc (Qc #[I J t,G m,V pf f.len cf] 46))
 have HX0:=hid (CA.new w #[I J t,G m,V pf f.len cf] 46)
 have HNE:=hid (show w.heap.size≠g by have:=hw.lt;omega)
 have y0:=HX0.out.at (k:=0) (v:=I J t) rfl
 have y1:=HX0.out.at (k:=1) (v:=G m) rfl
 have y2:=HX0.out.at (k:=2) (v:=V pf f.len cf) rfl
 have HN0:=hid (show (bs).length≤100000000000000 by
  have h1:=HSZ.out
  have h2:(gloL t m).length=2:=rfl
  (try simp only[QA,QC,QN,QM])
  omega)
 have HN1:=hid (show (bs++gloL t m).length+20+f.siz≤140737488355000 by
  have h1:=HSZ.out
  have h2:(gloL t m).length=2:=rfl
  (try simp only[QA,QC,QN,QM])
  omega)
 clear hw hn hct hok hsz hs
 go_enter Tryz.func114,Tryz.ntmps114
 go_upto_region 1 with fail
 generalize w.alloc (Qc #[I J t,G m,V pf f.len cf] 46)=w0 at *
 generalize w.heap.size=gx at *
 go_wp2_with (first
  |(go_at_call 174;(with_reducible refine (gtype_says B g _ t m _ HW0.out HN0.out).mono ?_);rintro e w1 ⟨rfl,hw',hf⟩;have HW1:=hid hw';have HF1:=hid ((HF0.out).trans hf);have HX1:=hid ((HX0.out).fr hf (by decide) HNE.out);clear y0 y1 y2;have y0:=HX1.out.at (k:=0) (v:=I J t) rfl;have y1:=HX1.out.at (k:=1) (v:=G m) rfl;have y2:=HX1.out.at (k:=2) (v:=V pf f.len cf) rfl;clear hw' hf)
  |(go_at_call 136;(with_reducible refine (code_says B g f HCT.out HOK.out _ _ _ HW1.out (HSA.out _ HF1.out) HN1.out).mono ?_);rintro e w2 ⟨rfl,hw',hf⟩;have HW2:=hid hw';have HF2:=hid ((HF1.out).trans hf);have HX2:=hid ((HX1.out).fr hf (by decide) HNE.out);clear y0 y1 y2;have y0:=HX2.out.at (k:=0) (v:=I J t) rfl;have y1:=HX2.out.at (k:=1) (v:=G m) rfl;have y2:=HX2.out.at (k:=2) (v:=V pf f.len cf) rfl;clear hw' hf))
 (first|go_end0|refine bodyPost_ret (results_none rfl _ _ _) rfl ?_)
 refine ⟨rfl,?_,HF2.out⟩
 have:=HW2.out
 simpa[mgL,codL]using this
end Go.Proofs.YtjgeedgphcjhoaaGreat
