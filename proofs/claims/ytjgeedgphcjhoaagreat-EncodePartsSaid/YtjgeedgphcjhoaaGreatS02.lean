/-
  Every, Small, RSm, RStr, RTabs, RDig, Types, RTypes, ROfM, RWords: merged, what the law does not reach left out (each text says what it holds where it lies in wip). No condition.
-/
import Derived.Test.YtjgeedgphcjhoaaGreatS01
import Derived.Deep.DeepCutAuto
import Derived.Deep.RegionHeld3
import Derived.Shelf.Abstract
import Derived.Laws.AppendOwnNone
import Derived.Laws.Concat
import Derived.RegionTactic
set_option linter.unusedSimpArgs false
set_option linter.unusedVariables false
set_option maxRecDepth 100000
set_option maxHeartbeats 64000000
namespace Go.Proofs.YtjgeedgphcjhoaaGreat
open Go.RowKit
open Value renaming int → I,slice → V,bool → G,string → Qs,pointer → Qp
open IntKind renaming i64 → J,u64 → O
open Ending renaming returned → Qr
open Obj renaming cells → Qc
open _root_.Go.Proofs.Tryz renaming prog → QP
open Nat renaming le_refl → Ql,le_trans → Qk,zero_le → Qz
open Below renaming refl → QB
theorem evF_cons {σ:Type} (st:σ→Int→Int→Int→Int→Nat→Nat→List Int→Bool→Fo→Fo→Bool × σ) (op a b:Int) (n h:Nat) (l:List Int) (ot:Bool) (body els rest:Fo) (d:Int) (s:σ) (b1:Bool) (s1:σ) (h1:st s d op a b n h l ot body els=(b1,s1)) (b2:Bool) (s2:σ) (h2:evF st body (d+1) s1=(b2,s2)) (b3:Bool) (s3:σ) (h3:evF st els (d+1) s2=(b3,s3)) :
  evF st (.cons op a b n h l ot body els rest) d s=if b1=true then (if b2=true then (if b3=true then evF st rest d s3 else (false,s3)) else (false,s2)) else (false,s1):=by
 rw[evF,h1]
 simp only
 rw[h2]
 simp only
 rw[h3]
def Asked {σ:Type} (k:Nat) (caps:Array Value) (St:σ→World→Prop) (st:σ→Int→Int→Int→Int→Nat→Nat→List Int→Bool→Fo→Fo→Bool × σ) (B:Nat) (c:Option Nat):Prop :=
 ∀s (d op a b:Int) (n h:Nat) l ot body els vl vb ve W,0≤d→B≤W.heap.size→(∀k,c=some k→k<W.heap.size)→LI B W vl l→SA B W vb body→SA B W ve els→St s W →
  Calls QP k (#[.agg #[I J op,I J a,I J b,I O n,I O h,vl,vb,ve,G ot],I J d]++caps) W fun e w'=>e=Qr (G (st s d op a b n h l ot body els).1)∧St (st s d op a b n h l ot body els).2 w'∧KP c W w'
theorem from_says {σ:Type} (k:Nat) (caps:Array Value) (eg:∀args w,(callFunc k args).run QP w=.ok (.enter k args) w)
  (St:σ→World→Prop) (st:σ→Int→Int→Int→Int→Nat→Nat→List Int→Bool→Fo→Fo→Bool × σ) (B:Nat) (c:Option Nat) (hBc:∀k,c=some k→B≤k) (hal:∀s W o,(∀k,c=some k→k<W.heap.size)→St s W→St s (W.alloc o)) (hcl:Asked k caps St st B c) :
  ∀(N:Nat) (f:Fo),f.cnt<N→∀(d:Int) (s:σ) (v:Value) (w:World),0≤d→d+f.cnt<9223372036854775807→B≤w.heap.size→(∀k,c=some k→k<w.heap.size)→SA B w v f→St s w →
   Calls QP 211 #[I J d,v,.func (.func k) #[] caps] w fun e w'=>e=Qr (G (evF st f d s).1)∧St (evF st f d s).2 w'∧KP c w w':=by
 intro N
 induction N with
 |zero=>intro f h;omega
 |succ N ih =>
  intro f hf d s v w hd hdn hB hcw hs hst
  obtain ⟨p,cp,g0,o0,rfl,hp,hfa⟩:=hs
  have HBC:=hid hBc
  have HCW:=hid hcw
  clear hBc hcw
  have HIH:=hid ih
  have HCL:=hid hcl
  have HP:=hid hp
  have HAL:=hid hal
  obtain ⟨R,hR⟩:∃R,R=evF st f d s:=⟨_,rfl⟩
  rw[←hR]
  obtain ⟨m,hm⟩:∃m,m=f.len:=⟨_,rfl⟩
  rw[←hm]at HP ⊢
  have hml:m≤f.cnt:=by
   have:∀f:Fo,f.len≤f.cnt:=by
    intro f
    induction f with
    |nil=>exact Ql _
    |cons _ _ _ _ _ _ _ _ _ _ _ _ ihr=>simp only[Fo.len,Fo.cnt];omega
   rw[hm];exact this f
  have HS:Hid (0+f.len=m∧f.cnt≤f.cnt∧FA B w f g0 (o0+0*9)∧R=evF st f d s∧St s w∧KP c w w):=⟨by rw[hm];omega,Ql _,by simpa using hfa,hR,hst,KP.refl _ _⟩
  have hm62:(m:Int)<9223372036854775807:=by omega
  obtain ⟨C,hC⟩:∃C,C=f.cnt:=⟨_,rfl⟩
  rw[←hC]at hf hdn
  have HCC:=hid hC
  have HSC:Hid (∀fi:Fo,fi.cnt≤f.cnt→fi.cnt<N+1∧d+fi.cnt<9223372036854775807):=fun fi h=>by rw[←hC]at h;omega
  have HD:=hid hd
  clear ih hcl hp hal hR hm hml hst hfa hf hdn hC HCC
  go_enter Tryz.func211,Tryz.ntmps211
  go_wp2
  go_loopw [11] (fun vi wr=>∃(i:Nat) (fi:Fo) (si:σ),i≤m∧vi=I J i∧Hid (i+fi.len=m∧fi.cnt≤f.cnt∧FA B wr fi g0 (o0+i*9)∧R=evF st fi d si∧St si wr∧KP c w wr)) (fun vi _=>m-(intOf vi).toNat)
  case atStart=>exact ⟨0,f,s,Qz _,rfl,HS⟩
  obtain ⟨i,fi,si,him,rfl,HI⟩:=hrel
  cases fi with
  |nil =>
   have hi:i=m:=HI.out.1
   subst hi
   have HE:=hid HI.out.2.2.2.1
   have HF:=hid HI.out.2.2.2.2
   go_wp2
   go_ret
   exact ⟨by rw[HE.out];rfl,by rw[HE.out];exact HF.out.1,HF.out.2⟩
  |cons op a b n h l ot body els rest =>
   obtain ⟨hg,⟨vl,vb,ve,x0,x1,x2,x3,x4,x5,x6,x7,x8,hl,hbo,hel⟩,hrest⟩:=HI.out.2.2.1
   obtain ⟨pl,cl,evl,_⟩:=id hl
   obtain ⟨pb,cb,gb',ob',evb,_⟩:=id hbo
   obtain ⟨pe,ce,ge',oe',eve,_⟩:=id hel
   obtain ⟨nl,hnl⟩:∃x,x=l.length:=⟨_,rfl⟩
   obtain ⟨nb,hnb⟩:∃x,x=body.len:=⟨_,rfl⟩
   obtain ⟨ne,hne⟩:∃x,x=els.len:=⟨_,rfl⟩
   rw[←hnl]at evl
   rw[←hnb]at evb
   rw[←hne]at eve
   subst evl evb eve
   clear hnl hnb hne
   have hlt:i<m:=by have:=HI.out.1;simp only[Fo.len]at this;omega
   obtain rfl:=HP.out (by omega)
   have hcn:=(HSC.out _ HI.out.2.1)
   simp only[Fo.cnt]at hcn
   have HR:=hid HI.out.2.2.2.1
   have HK0:=hid HI.out.2.2.2.2.2
   have hBr:B≤wr.heap.size:=Qk hB HK0.out.size
   have HCR:=hid (fun q hq=>Nat.lt_of_lt_of_le (HCW.out q hq) HK0.out.size)
   have hst0:=HI.out.2.2.2.2.1
   have HLE:=hid (show i+1+rest.len=m∧rest.cnt≤f.cnt by have h1:=HI.out.1;have h2:=HI.out.2.1;simp only[Fo.len,Fo.cnt]at h1 h2;omega)
   rcases hr1:st si d op a b n h l ot body els with ⟨b1,s1⟩
   rcases hr2:evF st body (d+1) s1 with ⟨b2,s2⟩
   rcases hr3:evF st els (d+1) s2 with ⟨b3,s3⟩
   have hev:=HR.out
   rw[evF_cons st op a b n h l ot body els rest d si b1 s1 hr1 b2 s2 hr2 b3 s3 hr3]at hev
   have HEV:=hid hev
   have HST:=hid hst0
   have HLI:=hid hl
   have HBD:=hid hbo
   have HEE:=hid hel
   have HRS:=hid hrest
   have HR1:=hid hr1
   have HR2:=hid hr2
   have HR3:=hid hr3
   have hdw:wrap64 (d+1)=d+1:=by unfold wrap64;have:=HD.out;omega
   have HCN:=hid hcn
   clear hl hbo hel hrest hst0 HI hg hcn hr1 hr2 hr3 hev HR HS
   go_upto_region 4 with fail
   have hb1:=(QB B wr).alloc hBr (Qc #[I J op,I J a,I J b,I O n,I O h,V pl nl cl,V pb nb cb,V pe ne ce,G ot] 39)
   have HX:=hid (CA.new wr #[I J op,I J a,I J b,I O n,I O h,V pl nl cl,V pb nb cb,V pe ne ce,G ot] 39)
   have HK1:=hid (HK0.out.alloc (Qc #[I J op,I J a,I J b,I O n,I O h,V pl nl cl,V pb nb cb,V pe ne ce,G ot] 39))
   have HSA:=hid (HAL.out si wr (Qc #[I J op,I J a,I J b,I O n,I O h,V pl nl cl,V pb nb cb,V pe ne ce,G ot] 39) HCR.out HST.out)
   have HC1W:=hid (fun (q:Nat) (hq:c=some q)=>show q<(wr.alloc (Qc #[I J op,I J a,I J b,I O n,I O h,V pl nl cl,V pb nb cb,V pe ne ce,G ot] 39)).heap.size by rw[size_al];have:=HCR.out q hq;omega)
   have HNG:=hid (show c≠some wr.heap.size from fun e=>by have:=HCR.out _ e;omega)
   have hBo:B≤(wr.alloc (Qc #[I J op,I J a,I J b,I O n,I O h,V pl nl cl,V pb nb cb,V pe ne ce,G ot] 39)).heap.size:=by rw[size_al];omega
   have HLI1:=hid (LI.below HLI.out hb1)
   have HBO:=hid (SA.below HBD.out hb1)
   have HEL:=hid (SA.below HEE.out hb1)
   have HRE:=hid (FA.below hb1 _ _ _ HRS.out)
   clear hb1 HLI HBD HEE HRS HK0 HST
   generalize wr.alloc (Qc #[I J op,I J a,I J b,I O n,I O h,V pl nl cl,V pb nb cb,V pe ne ce,G ot] 39)=W1 at *
   generalize wr.heap.size=gb at *
   have hc1:=HCL.out si d op a b n h l ot body els (V pl nl cl) (V pb nb cb) (V pe ne ce) W1 HD.out hBo HC1W.out HLI1.out HBO.out HEL.out HSA.out
   rw[HR1.out]at hc1
   have HC:=hid hc1
   obtain ⟨y0,y1,y2,y3,y4,y5,y6,y7,y8⟩:=ca9 HX.out
   have HIB:=fun W h1 h2 h3 h4=>hid (HIH.out body (by have:=HCN.out;omega) (d+1) s1 (V pb nb cb) W (by have:=HD.out;omega) (by have:=HCN.out;omega) h1 h2 h3 h4)
   have HIE:=fun W h1 h2 h3 h4=>hid (HIH.out els (by have:=HCN.out;omega) (d+1) s2 (V pe ne ce) W (by have:=HD.out;omega) (by have:=HCN.out;omega) h1 h2 h3 h4)
   rw[HR2.out]at HIB
   rw[HR3.out]at HIE
   clear hc1 x0 x1 x2 x3 x4 x5 x6 x7 x8 HLI1 HSA
   cases b1 with
   |false =>
    clear HIB HIE
    go_wp2_with (first
       |(go_at_fn k;(with_reducible refine HC.out.mono ?_);rintro e w2 ⟨rfl,hs2,hk2⟩;have HS2:=hid hs2;have HK2:=hid (HK1.out.trans hk2);have HKK2:=hid hk2;have HX2:=hid (HX.out.keep hk2 HNG.out);have y6:=HX2.out.at (k:=6) (v:=V pb nb cb) rfl;clear hs2 hk2))
    go_ret
    exact ⟨by rw[HEV.out];rfl,by rw[HEV.out];exact HS2.out,HK2.out⟩
   |true =>
    cases b2 with
    |false =>
     clear HIE
     go_wp2_with (first
       |(go_at_fn k;(with_reducible refine HC.out.mono ?_);rintro e w2 ⟨rfl,hs2,hk2⟩;have HS2:=hid hs2;have HK2:=hid (HK1.out.trans hk2);have HKK2:=hid hk2;have HX2:=hid (HX.out.keep hk2 HNG.out);have y6:=HX2.out.at (k:=6) (v:=V pb nb cb) rfl;clear hs2 hk2)
       |(go_at_call 211;(with_reducible refine (HIB _ (Qk hBo HKK2.out.size) (fun q hq=>Nat.lt_of_lt_of_le (HC1W.out q hq) HKK2.out.size) (SA.below HBO.out (HKK2.out.below hBo HBC.out)) HS2.out).out.mono ?_);rintro e w3 ⟨rfl,hs3,hk3⟩;have HS3:=hid hs3;have HK3:=hid (HK2.out.trans hk3);have HKK3:=hid (HKK2.out.trans hk3);have HX3:=hid (HX2.out.keep hk3 HNG.out);have y7:=HX3.out.at (k:=7) (v:=V pe ne ce) rfl;clear hs3 hk3))
     go_ret
     exact ⟨by rw[HEV.out];rfl,by rw[HEV.out];exact HS3.out,HK3.out⟩
    |true =>
     cases b3 with
     |false =>
      go_wp2_with (first
       |(go_at_fn k;(with_reducible refine HC.out.mono ?_);rintro e w2 ⟨rfl,hs2,hk2⟩;have HS2:=hid hs2;have HK2:=hid (HK1.out.trans hk2);have HKK2:=hid hk2;have HX2:=hid (HX.out.keep hk2 HNG.out);have y6:=HX2.out.at (k:=6) (v:=V pb nb cb) rfl;clear hs2 hk2)
       |(go_at_call 211;(with_reducible refine (HIB _ (Qk hBo HKK2.out.size) (fun q hq=>Nat.lt_of_lt_of_le (HC1W.out q hq) HKK2.out.size) (SA.below HBO.out (HKK2.out.below hBo HBC.out)) HS2.out).out.mono ?_);rintro e w3 ⟨rfl,hs3,hk3⟩;have HS3:=hid hs3;have HK3:=hid (HK2.out.trans hk3);have HKK3:=hid (HKK2.out.trans hk3);have HX3:=hid (HX2.out.keep hk3 HNG.out);have y7:=HX3.out.at (k:=7) (v:=V pe ne ce) rfl;clear hs3 hk3)
       |(go_at_call 211;(with_reducible refine (HIE _ (Qk hBo HKK3.out.size) (fun q hq=>Nat.lt_of_lt_of_le (HC1W.out q hq) HKK3.out.size) (SA.below HEL.out (HKK3.out.below hBo HBC.out)) HS3.out).out.mono ?_);rintro e w4 ⟨rfl,hs4,hk4⟩;have HS4:=hid hs4;have HK4:=hid (HK3.out.trans hk4);have HKK4:=hid (HKK3.out.trans hk4);clear hs4 hk4))
      go_ret
      exact ⟨by rw[HEV.out];rfl,by rw[HEV.out];exact HS4.out,HK4.out⟩
     |true =>
      go_wp2_with (first
       |(go_at_fn k;(with_reducible refine HC.out.mono ?_);rintro e w2 ⟨rfl,hs2,hk2⟩;have HS2:=hid hs2;have HK2:=hid (HK1.out.trans hk2);have HKK2:=hid hk2;have HX2:=hid (HX.out.keep hk2 HNG.out);have y6:=HX2.out.at (k:=6) (v:=V pb nb cb) rfl;clear hs2 hk2)
       |(go_at_call 211;(with_reducible refine (HIB _ (Qk hBo HKK2.out.size) (fun q hq=>Nat.lt_of_lt_of_le (HC1W.out q hq) HKK2.out.size) (SA.below HBO.out (HKK2.out.below hBo HBC.out)) HS2.out).out.mono ?_);rintro e w3 ⟨rfl,hs3,hk3⟩;have HS3:=hid hs3;have HK3:=hid (HK2.out.trans hk3);have HKK3:=hid (HKK2.out.trans hk3);have HX3:=hid (HX2.out.keep hk3 HNG.out);have y7:=HX3.out.at (k:=7) (v:=V pe ne ce) rfl;clear hs3 hk3)
       |(go_at_call 211;(with_reducible refine (HIE _ (Qk hBo HKK3.out.size) (fun q hq=>Nat.lt_of_lt_of_le (HC1W.out q hq) HKK3.out.size) (SA.below HEL.out (HKK3.out.below hBo HBC.out)) HS3.out).out.mono ?_);rintro e w4 ⟨rfl,hs4,hk4⟩;have HS4:=hid hs4;have HK4:=hid (HK3.out.trans hk4);have HKK4:=hid (HKK3.out.trans hk4);clear hs4 hk4))
      go_roundw
      case rel=>exact ⟨i+1,rest,s3,hlt,by go_num,HLE.out.1,HLE.out.2,by (have h9:o0+(i+1)*9=o0+i*9+9:=by omega);rw[h9];exact FA.below (HKK4.out.below hBo HBC.out) _ _ _ HRE.out,by have:=HEV.out;simpa using this,HS4.out,HK4.out⟩
      case measure=>simp[intOf];omega
theorem every_says {σ:Type} (k:Nat) (caps:Array Value) (eg:∀args w,(callFunc k args).run QP w=.ok (.enter k args) w)
  (St:σ→World→Prop) (st:σ→Int→Int→Int→Int→Nat→Nat→List Int→Bool→Fo→Fo→Bool × σ) (B:Nat) (c:Option Nat) (hBc:∀k,c=some k→B≤k) (hal:∀s W o,(∀k,c=some k→k<W.heap.size)→St s W→St s (W.alloc o)) (hcl:Asked k caps St st B c)
  (f:Fo) (s:σ) (v:Value) (w:World) (hn:f.cnt<9223372036854775806) (hB:B≤w.heap.size) (hcw:∀k,c=some k→k<w.heap.size) (hs:SA B w v f) (hst:St s w) :
  Calls QP 140 #[v,.func (.func k) #[] caps] w fun e w'=>e=Qr (G (evF st f 1 s).1)∧St (evF st f 1 s).2 w'∧KP c w w':=by
 have H:=hid (from_says k caps eg St st B c hBc hal hcl (f.cnt+1) f (Nat.lt_succ_self _) 1 s v w (by decide) (by omega) hB hcw hs hst)
 generalize evF st f 1 s=R at *
 clear hs hst hcl hal hn hcw hBc
 go_enter Tryz.func140,Tryz.ntmps140
 go_wp2_with (go_at_call 211;(with_reducible refine H.out.mono ?_);rintro e w2 ⟨rfl,hs2,hb2⟩)
 go_ret
 exact ⟨rfl,hs2,hb2⟩
def idxB (a:Int):Bool:=decide (IntKind.u64.wrap a≤4294967295)
def refB (a:Int):Bool:=a==112||a==111
def valB (a:Int):Bool:=a==127||a==126||a==125||a==124||a==123||refB a
def byteB (a:Int):Bool:=decide (0≤a)&&decide (a≤255)
theorem isIndex_says (a:Int) (w:World):Calls QP 145 #[I J a] w fun e w'=>e=Qr (G (idxB a))∧w=w':=by
 unfold idxB
 go_enter Tryz.func145,Tryz.ntmps145
 go_wp2
 go_ret
 exact ⟨rfl,rfl⟩
theorem isStart_says (a:Int) (w:World):Calls QP 44 #[I J a] w fun e w'=>e=Qr (G (decide (IntKind.u64.wrap a≤4294967296)))∧w=w':=by
 go_enter Tryz.func44,Tryz.ntmps44
 go_wp2
 go_ret
 exact ⟨rfl,rfl⟩
theorem isRef_says (a:Int) (w:World):Calls QP 149 #[I J a] w fun e w'=>e=Qr (G (refB a))∧w=w':=by
 unfold refB
 obtain ⟨b1,d1⟩:∃b,(a==112)=b:=⟨_,rfl⟩
 rw[d1]
 cases b1
 all_goals
  go_enter Tryz.func149,Tryz.ntmps149
  go_wp2
  go_ret
  exact ⟨rfl,rfl⟩
theorem isByte_says (a:Int) (w:World):Calls QP 235 #[I J a] w fun e w'=>e=Qr (G (byteB a))∧w=w':=by
 unfold byteB
 obtain ⟨b1,d1⟩:∃b,decide (0≤a)=b:=⟨_,rfl⟩
 rw[d1]
 cases b1
 all_goals
  go_enter Tryz.func235,Tryz.ntmps235
  go_wp2
  go_ret
  exact ⟨rfl,rfl⟩
theorem isVal_says (a:Int) (w:World):Calls QP 144 #[I J a] w fun e w'=>e=Qr (G (valB a))∧w=w':=by
 have HR:=fun W=>hid (isRef_says a W)
 unfold valB
 generalize refB a=r at *
 obtain ⟨b1,d1⟩:∃b,(a==127)=b:=⟨_,rfl⟩
 obtain ⟨b2,d2⟩:∃b,(a==126)=b:=⟨_,rfl⟩
 obtain ⟨b3,d3⟩:∃b,(a==125)=b:=⟨_,rfl⟩
 obtain ⟨b4,d4⟩:∃b,(a==124)=b:=⟨_,rfl⟩
 obtain ⟨b5,d5⟩:∃b,(a==123)=b:=⟨_,rfl⟩
 rw[d1,d2,d3,d4,d5]
 rcases (show b1=true∨(b1=false∧b2=true)∨(b1=false∧b2=false∧b3=true)∨(b1=false∧b2=false∧b3=false∧b4=true)∨(b1=false∧b2=false∧b3=false∧b4=false∧b5=true)∨(b1=false∧b2=false∧b3=false∧b4=false∧b5=false) by cases b1<;>cases b2<;>cases b3<;>cases b4<;>cases b5<;>simp) with rfl|⟨rfl,rfl⟩|⟨rfl,rfl,rfl⟩|⟨rfl,rfl,rfl,rfl⟩|⟨rfl,rfl,rfl,rfl,rfl⟩|⟨rfl,rfl,rfl,rfl,rfl⟩
 all_goals
  go_enter Tryz.func144,Tryz.ntmps144
  go_wp2_with (go_at_call 149;(with_reducible refine (HR _).out.mono ?_);rintro e w1 ⟨rfl,rfl⟩)
  go_ret
  exact ⟨by simp,rfl⟩
theorem all_int (k:Nat) (eg:∀args w,(callFunc k args).run QP w=.ok (.enter k args) w) (P:Int→Bool) (hP:∀x W,Calls QP k #[I J x] W fun e w'=>e=Qr (G (P x))∧W=w')
  (l:List Int) (v:Value) (B:Nat) (w:World) (hl:LI B w v l) (hB:B≤w.heap.size) (hn:l.length<9223372036854775807):Calls QP 143 #[v,.func (.func k) #[] #[]] w fun e w'=>e=Qr (G (l.all P))∧w=w':=by
 obtain ⟨p,c,rfl,_,hc⟩:=hl
 have HP:=fun x W=>hid (hP x W)
 obtain ⟨r,hr⟩:∃r,r=l.all P:=⟨_,rfl⟩
 rw[←hr]
 obtain ⟨n,hnn⟩:∃n,n=l.length:=⟨_,rfl⟩
 rw[←hnn]at hn ⊢
 have HR:=hid hr
 have HC:=hid hc
 have HN:=hid hnn
 have hn':(n:Int)<9223372036854775807:=by omega
 clear hP hr hc hnn hn
 go_enter Tryz.func143,Tryz.ntmps143
 go_wp2
 go_loop [9] (fun vi=>∃i:Nat,i≤n∧vi=I J i∧Hid (r=(l.drop i).all P)) (fun vi=>n-(intOf vi).toNat)
 case atStart=>exact ⟨0,Qz _,rfl,by (have:=HR.out;show r=_;simpa using this)⟩
 obtain ⟨i,hi,rfl,HI⟩:=hrel
 by_cases hlt:i<n
 ·have hll:i<l.length:=by rw[←HN.out];exact hlt
  obtain ⟨g,o,rfl,hg,hx⟩:=HC.out (fun e=>by rw[e]at hll;simp at hll)
  have hd:=List.drop_eq_getElem_cons hll
  obtain ⟨x,hxe⟩:∃x,x=l[i]:=⟨_,rfl⟩
  have x0:=hx i x (by rw[hxe];simp[List.getElem?_eq_getElem hll])
  have HE:Hid (r=(P x&&(l.drop (i+1)).all P)):=by have:=HI.out;rw[hd,←hxe]at this;(show r=_);simpa using this
  have HPX:=fun W=>HP x W
  clear hx hd hxe hll
  rcases hpx:P x with _|_
  ·rw[hpx]at HPX HE
   clear hpx
   go_wp2_with (go_at_fn k;(with_reducible refine (HPX _).out.mono ?_);rintro e w1 ⟨rfl,rfl⟩)
   go_ret
   exact ⟨by rw[HE.out];rfl,rfl⟩
  rw[hpx]at HPX HE
  clear hpx
  go_wp2_with (go_at_fn k;(with_reducible refine (HPX _).out.mono ?_);rintro e w1 ⟨rfl,rfl⟩)
  go_round
  case rel=>exact ⟨i+1,hlt,by go_num,by (have:=HE.out;show r=_;simpa using this)⟩
  case measure=>simp[intOf];omega
 obtain rfl:i=n:=by omega
 have HE:Hid (r=true):=by have:=HI.out;rw[List.drop_of_length_le (by rw[←HN.out];exact Ql _)]at this;exact this
 go_wp2
 go_ret
 exact ⟨by rw[HE.out];rfl,rfl⟩
def unB (a b:Int) (n h:Nat) (ot:Bool) (nl nb ne:Nat):Bool:=(a==0)&&(b==0)&&((n:Int)==0)&&((h:Int)==0)&&!ot&&((nl:Int)==0)&&((nb:Int)==0)&&((ne:Int)==0)
theorem isUnused_says (op a b:Int) (n h:Nat) (pl pb pe:Option Addr) (nl cl nb cb ne ce:Nat) (ot:Bool) (w:World):Calls QP 236 #[.agg #[I J op,I J a,I J b,I O n,I O h,V pl nl cl,V pb nb cb,V pe ne ce,G ot]] w fun e w'=>e=Qr (G (unB a b n h ot nl nb ne))∧Below w.heap.size w w':=by
 unfold unB
 obtain ⟨b1,d1⟩:∃x,(a==0)=x:=⟨_,rfl⟩
 obtain ⟨b2,d2⟩:∃x,(b==0)=x:=⟨_,rfl⟩
 obtain ⟨b3,d3⟩:∃x,((n:Int)==0)=x:=⟨_,rfl⟩
 obtain ⟨b4,d4⟩:∃x,((h:Int)==0)=x:=⟨_,rfl⟩
 obtain ⟨b6,d6⟩:∃x,((nl:Int)==0)=x:=⟨_,rfl⟩
 obtain ⟨b7,d7⟩:∃x,((nb:Int)==0)=x:=⟨_,rfl⟩
 obtain ⟨b8,d8⟩:∃x,((ne:Int)==0)=x:=⟨_,rfl⟩
 rw[d1,d2,d3,d4,d6,d7,d8]
 cases b1 with
 |false =>
  go_enter Tryz.func236,Tryz.ntmps236
  go_wp2
  go_ret
  exact ⟨by simp,(QB _ _).alloc (Ql _) _⟩
 |true =>
  cases b2 with
  |false =>
   go_enter Tryz.func236,Tryz.ntmps236
   go_wp2
   go_ret
   exact ⟨by simp,(QB _ _).alloc (Ql _) _⟩
  |true =>
   cases b3 with
   |false =>
    go_enter Tryz.func236,Tryz.ntmps236
    go_wp2
    go_ret
    exact ⟨by simp,(QB _ _).alloc (Ql _) _⟩
   |true =>
    cases b4 with
    |false =>
     go_enter Tryz.func236,Tryz.ntmps236
     go_wp2
     go_ret
     exact ⟨by simp,(QB _ _).alloc (Ql _) _⟩
    |true =>
     cases ot with
     |true =>
      go_enter Tryz.func236,Tryz.ntmps236
      go_wp2
      go_ret
      exact ⟨by simp,(QB _ _).alloc (Ql _) _⟩
     |false =>
      cases b6 with
      |false =>
       go_enter Tryz.func236,Tryz.ntmps236
       go_wp2
       go_ret
       exact ⟨by simp,(QB _ _).alloc (Ql _) _⟩
      |true =>
       cases b7 with
       |false =>
        go_enter Tryz.func236,Tryz.ntmps236
        go_wp2
        go_ret
        exact ⟨by simp,(QB _ _).alloc (Ql _) _⟩
       |true =>
        go_enter Tryz.func236,Tryz.ntmps236
        go_wp2
        go_ret
        exact ⟨by simp,(QB _ _).alloc (Ql _) _⟩
def idxR (a:Int):Bool:=decide (0≤a)&&decide (a<4294967296)
def inR (n a:Int):Bool:=decide (0≤a)&&decide (a<n)
theorem idx_eq (a:Int) (h0:-9223372036854775808≤a) (h1:a<9223372036854775808):idxB a=idxR a:=by
 have hw:IntKind.u64.wrap a=a%18446744073709551616:=rfl
 unfold idxB idxR
 rw[hw]
 by_cases h:0≤a
 ·rw[Int.emod_eq_of_lt h (by omega)]
  simp only[h,decide_true,Bool.true_and]
  exact decide_eq_decide.2 (by omega)
 have e:a%18446744073709551616=a+18446744073709551616:=by omega
 rw[e]
 simp only[h,decide_false,Bool.false_and]
 exact decide_eq_false (by omega)
theorem byte_eq (a:Int):byteB a=inR 256 a:=by
 unfold byteB inR
 congr 1
 exact decide_eq_decide.2 (by omega)
theorem RIndex_says (a:Int) (w:World):Calls QP 52 #[I J a] w fun e w'=>e=Qr (G (idxR a))∧w=w':=by
 unfold idxR
 obtain ⟨b1,d1⟩:∃b,decide (0≤a)=b:=⟨_,rfl⟩
 rw[d1]
 cases b1
 all_goals
  go_enter Tryz.func52,Tryz.ntmps52
  go_wp2
  go_ret
  exact ⟨rfl,rfl⟩
theorem RRef_says (a:Int) (w:World):Calls QP 154 #[I J a] w fun e w'=>e=Qr (G (refB a))∧w=w':=by
 unfold refB
 obtain ⟨b1,d1⟩:∃b,(a==112)=b:=⟨_,rfl⟩
 rw[d1]
 cases b1
 all_goals
  go_enter Tryz.func154,Tryz.ntmps154
  go_wp2
  go_ret
  exact ⟨rfl,rfl⟩
theorem RVal_says (a:Int) (w:World):Calls QP 56 #[I J a] w fun e w'=>e=Qr (G (valB a))∧w=w':=by
 unfold valB refB
 obtain ⟨b1,d1⟩:∃b,(a==127)=b:=⟨_,rfl⟩
 obtain ⟨b2,d2⟩:∃b,(a==126)=b:=⟨_,rfl⟩
 obtain ⟨b3,d3⟩:∃b,(a==125)=b:=⟨_,rfl⟩
 obtain ⟨b4,d4⟩:∃b,(a==124)=b:=⟨_,rfl⟩
 obtain ⟨b5,d5⟩:∃b,(a==123)=b:=⟨_,rfl⟩
 obtain ⟨b6,d6⟩:∃b,(a==112)=b:=⟨_,rfl⟩
 rw[d1,d2,d3,d4,d5,d6]
 rcases (show (b1=true)∨(b1=false∧b2=true)∨(b1=false∧b2=false∧b3=true)∨(b1=false∧b2=false∧b3=false∧b4=true)∨(b1=false∧b2=false∧b3=false∧b4=false∧b5=true)∨(b1=false∧b2=false∧b3=false∧b4=false∧b5=false∧b6=true)∨(b1=false∧b2=false∧b3=false∧b4=false∧b5=false∧b6=false) by cases b1<;>cases b2<;>cases b3<;>cases b4<;>cases b5<;>cases b6<;>simp) with rfl|⟨rfl,rfl⟩|⟨rfl,rfl,rfl⟩|⟨rfl,rfl,rfl,rfl⟩|⟨rfl,rfl,rfl,rfl,rfl⟩|⟨rfl,rfl,rfl,rfl,rfl,rfl⟩|⟨rfl,rfl,rfl,rfl,rfl,rfl⟩
 all_goals
  go_enter Tryz.func56,Tryz.ntmps56
  go_wp2
  go_ret
  exact ⟨rfl,rfl⟩
theorem RVals_says (l:List Int) (v:Value) (B:Nat) (w:World) (hl:LI B w v l):Calls QP 50 #[v] w fun e w'=>e=Qr (G (l.all valB))∧w=w':=by
 obtain ⟨p,c,rfl,hn,hc⟩:=hl
 have HP:=fun x W=>hid (RVal_says x W)
 obtain ⟨r,hr⟩:∃r,r=l.all valB:=⟨_,rfl⟩
 rw[←hr]
 obtain ⟨n,hnn⟩:∃n,n=l.length:=⟨_,rfl⟩
 rw[←hnn]at hn ⊢
 have HR:=hid hr
 have HC:=hid hc
 have HN:=hid hnn
 have hn':(n:Int)<9223372036854775807:=by omega
 clear hr hc hnn hn
 go_enter Tryz.func50,Tryz.ntmps50
 go_wp2
 go_loop [3] (fun vi=>∃i:Nat,i≤n∧vi=I J i∧Hid (r=(l.drop i).all valB)) (fun vi=>n-(intOf vi).toNat)
 case atStart=>exact ⟨0,Qz _,rfl,by (have:=HR.out;show r=_;simpa using this)⟩
 obtain ⟨i,hi,rfl,HI⟩:=hrel
 by_cases hlt:i<n
 ·have hll:i<l.length:=by rw[←HN.out];exact hlt
  obtain ⟨g,o,rfl,hg,hx⟩:=HC.out (fun e=>by rw[e]at hll;simp at hll)
  have hd:=List.drop_eq_getElem_cons hll
  obtain ⟨x,hxe⟩:∃x,x=l[i]:=⟨_,rfl⟩
  have x0:=hx i x (by rw[hxe];simp[List.getElem?_eq_getElem hll])
  have HE:Hid (r=(valB x&&(l.drop (i+1)).all valB)):=by have:=HI.out;rw[hd,←hxe]at this;(show r=_);simpa using this
  clear hx hd hxe hll
  have HPX:=fun W=>HP x W
  rcases hpx:valB x with _|_
  ·rw[hpx]at HPX HE
   clear hpx
   go_wp2_with (go_at_call 56;(with_reducible refine (HPX _).out.mono ?_);rintro e w1 ⟨rfl,rfl⟩)
   go_ret
   exact ⟨by rw[HE.out];rfl,rfl⟩
  rw[hpx]at HPX HE
  clear hpx
  go_wp2_with (go_at_call 56;(with_reducible refine (HPX _).out.mono ?_);rintro e w1 ⟨rfl,rfl⟩)
  go_round
  case rel=>exact ⟨i+1,hlt,by go_num,by (have:=HE.out;show r=_;simpa using this)⟩
  case measure=>simp[intOf];omega
 obtain rfl:i=n:=by omega
 go_wp2
 go_ret
 exact ⟨by (have:=HI.out;rw[List.drop_eq_nil_of_le (by rw[HN.out];exact Ql _)]at this;rw[this];rfl),rfl⟩
theorem RIns_says (q:Int) (l:List Int) (v:Value) (B:Nat) (w:World) (hl:LI B w v l):Calls QP 231 #[v,I J q] w fun e w'=>e=Qr (G (l.all (inR q)))∧w=w':=by
 obtain ⟨p,c,rfl,hn,hc⟩:=hl
 obtain ⟨r,hr⟩:∃r,r=l.all (inR q):=⟨_,rfl⟩
 rw[←hr]
 obtain ⟨n,hnn⟩:∃n,n=l.length:=⟨_,rfl⟩
 rw[←hnn]at hn ⊢
 have HR:=hid hr
 have HC:=hid hc
 have HN:=hid hnn
 have hn':(n:Int)<9223372036854775807:=by omega
 clear hr hc hnn hn
 go_enter Tryz.func231,Tryz.ntmps231
 go_wp2
 go_loop [5] (fun vi=>∃i:Nat,i≤n∧vi=I J i∧Hid (r=(l.drop i).all (inR q))) (fun vi=>n-(intOf vi).toNat)
 case atStart=>exact ⟨0,Qz _,rfl,by (have:=HR.out;show r=_;simpa using this)⟩
 obtain ⟨i,hi,rfl,HI⟩:=hrel
 by_cases hlt:i<n
 ·have hll:i<l.length:=by rw[←HN.out];exact hlt
  obtain ⟨g,o,rfl,hg,hx⟩:=HC.out (fun e=>by rw[e]at hll;simp at hll)
  have hd:=List.drop_eq_getElem_cons hll
  obtain ⟨x,hxe⟩:∃x,x=l[i]:=⟨_,rfl⟩
  have x0:=hx i x (by rw[hxe];simp[List.getElem?_eq_getElem hll])
  have HE:Hid (r=((inR q) x&&(l.drop (i+1)).all (inR q))):=by have:=HI.out;rw[hd,←hxe]at this;(show r=_);simpa using this
  clear hx hd hxe hll
  have HX:Hid (inR q x=(decide (0≤x)&&decide (x<q))):=rfl
  by_cases c0:x<0
  ·have b0:decide (x<0)=true:=by simp;omega
   have HF:Hid (inR q x=false):=by (show inR q x=false);rw[HX.out,show decide (0≤x)=false by simp;omega];rfl
   go_wp2
   go_ret
   exact ⟨by rw[HE.out,HF.out];rfl,rfl⟩
  have b0:decide (x<0)=false:=by simp;omega
  by_cases c1:q≤x
  ·have b1:decide (q≤x)=true:=by simp;omega
   have HF:Hid (inR q x=false):=by (show inR q x=false);rw[HX.out,show decide (x<q)=false by simp;omega];simp
   go_wp2
   go_ret
   exact ⟨by rw[HE.out,HF.out];rfl,rfl⟩
  have b1:decide (q≤x)=false:=by simp;omega
  have HF:Hid (inR q x=true):=by (show inR q x=true);rw[HX.out,show decide (0≤x)=true by simp;omega,show decide (x<q)=true by simp;omega];rfl
  go_wp2
  go_round
  case rel=>exact ⟨i+1,hlt,by go_num,by (have:=HE.out;rw[HF.out]at this;show r=_;simpa using this)⟩
  case measure=>simp[intOf];omega
 obtain rfl:i=n:=by omega
 go_wp2
 go_ret
 exact ⟨by (have:=HI.out;rw[List.drop_eq_nil_of_le (by rw[HN.out];exact Ql _)]at this;rw[this];rfl),rfl⟩
def str (l:List UInt8):ByteArray:=⟨l.toArray⟩
theorem str_list (l:List UInt8):(str l).toList=l:=by rw[ByteArray.toList_eq];rfl
theorem str_size (l:List UInt8):(str l).size=l.length:=by simp[str,ByteArray.size]
theorem str_get (l:List UInt8) (n:Nat) (h:n<l.length) (h':n<(str l).size):(str l)[n]'h'=l[n]:=by
 show (l.toArray)[n]'(by simpa using h)=l[n]
 rfl
theorem str_snoc (x l:List UInt8) (n:Nat) (h:n<l.length):str x++(str l).extract n (n+1)=str (x++[l[n]]):=by
 apply ByteArray.ext
 simp only[ByteArray.data_append,ByteArray.data_extract,str]
 rw[List.extract_toArray,List.append_toArray]
 congr 2
 rw[List.extract_eq_take_drop,Nat.add_sub_cancel_left,List.drop_eq_getElem_cons h]
 rfl
def sc (l:List (List UInt8)):List Value:=l.map fun x=>Value.string (str x)
theorem info9:(Tryz.prog.info? 9).map (fun i=>(i.zero,i.size,i.bytes))=some (some (Qs ⟨#[]⟩),1,16):=by kernel_rfl
theorem append_str {w:World} {ops:Array Oper} {rest:List Oper} {o:Oper} {a:Act} {Q:Exit→Act→World→Prop} (hgd:o.guard=none) (s x:Operand)
  (ho:o.op=.call { callee:=.builtin .append,args:=#[s,x],argTypes:=#[218,218] }) (base:Nat) (v:Value) (n:Nat) (xs:List Value) (q:ByteArray)
  (hown:w.ownsRow base 9 1 v n xs) (hbase:base≤w.heap.size) (hn:n+1≤1000000) (hs:a.eval s=v) (hx:a.eval x=V (some ⟨w.heap.size,0,none⟩) 1 1)
  (h:∀v' w',w'.ownsRow base 9 1 v' (n+1) (xs++[Qs q])→Below base w w'→base≤w'.heap.size→wpList QP ops Q rest (a.put o.dst v') w') :
  wpList QP ops Q (o::rest) a (w.alloc (Qc #[Qs q] 9)):=by
 obtain ⟨i0,hi,hz0,hz1,hz2⟩:=info_parts info9
 have hb1:=(QB base w).alloc hbase (Qc #[Qs q] 9)
 refine wpList_append_own _ hgd s x 218 ho base 9 i0 (Qs ⟨#[]⟩) 1 16 Tryz.underlying218 hi hz0 hz1 hz2 rfl (by decide) v n xs hs (hown.alloc _) ⟨w.heap.size,0,none⟩ 1 1 [Qs q] hx rfl (cell_one_new _ _ _)
  (fun u hu=>by simp at hu;subst hu;rfl) (by unfold maxLen;omega) (by omega) (by simp;omega) ?_
 intro v' w1 hown' hgrow _
 exact h v' w1 hown' (hb1.grown hgrow (by simp;omega) (fun k hk=>(hown.lt k hk).1)) (by have:=hgrow.size;simp at this;omega)
def stepW (p:List (List UInt8) × List UInt8) (c:UInt8):List (List UInt8) × List UInt8 :=
 match p with
 |(o,x)=>if c=32 then (if x=[] then (o,[]) else (o++[x],[])) else (o,x++[c])
def wst (l:List UInt8) (n:Nat):List (List UInt8) × List UInt8:=((l++[32]).take n).foldl stepW ([],[])
def wordsL (l:List UInt8):List (List UInt8):=(wst l (l.length+1)).1
theorem wst_succ (l:List UInt8) (n:Nat) (c:UInt8) (h:(l++[32])[n]?=some c):wst l (n+1)=stepW (wst l n) c:=by
 unfold wst
 rw[List.take_add_one,h,List.foldl_append]
 rfl
theorem wst_len (l:List UInt8) (n:Nat):(wst l n).1.length+(wst l n).2.length≤n:=by
 induction n with
 |zero=>simp[wst]
 |succ n ih =>
  cases h:(l++[32])[n]? with
  |none =>
   have e:wst l (n+1)=wst l n:=by unfold wst;rw[List.take_add_one,h];simp
   rw[e];omega
  |some c =>
   rw[wst_succ l n c h]
   generalize wst l n=p at ih
   obtain ⟨o,x⟩:=p
   simp only[stepW]at ih ⊢
   split
   ·split
    ·rename_i hx;subst hx;simp at ih ⊢;omega
    rename_i hx
    have:0<x.length:=List.length_pos_iff.2 hx
    simp;omega
   simp;omega
theorem tab_front {T:TypeId} {oa ob oc os:Oper} {rest:Code} {Q:Exit→Act→World→Prop} {i:Value} {w:World} {parts:Array (Nat × Operand)} {cs zs:Array Value}
  (ha:oa.op=.assign (.const (Qs ⟨#[]⟩))∧oa.dst=some 2∧oa.guard=none)
  (hb:ob.op=.build T parts∧ob.dst=some 4∧ob.guard=none) (hbuilt:∀a:Act,Tryz.prog.built T (parts.map fun (i,x)=>(i,a.eval x)).toList=some cs)
  (hc:oc.op=.alloc T∧oc.dst=some 3∧oc.guard=none) (halloc:∀(a:Act) (W:World),(execOp a.eval oc).run QP W=.ok (.value (Qp (some ⟨W.heap.size,0,none⟩))) (W.alloc (.cells zs T)))
  (hs:os.op=.store T (.tmp 3) (.tmp 4)∧os.dst=none∧os.guard=none)
  (hzs:zs.size=cs.size) (hi:(Tryz.prog.info? T).map (·.size)=some cs.size) (h1:cs.all (·.oneCell')=true)
  (h:∀v4 W,(∀k v,cs[k]?=some v→W.cell? ⟨w.heap.size,k,none⟩=some v)→Below w.heap.size w W →
   Code.wp QP rest Q { tmps:=#[i,undef,Qs ⟨#[]⟩,Qp (some ⟨w.heap.size,0,none⟩),v4,undef,undef,undef],defers:=[] } W) :
  Code.wp QP (.seq (.region 0 #[oa] false) (.seq (.region 1 #[ob,oc,os] false) rest)) Q { tmps:=#[i,undef,undef,undef,undef,undef,undef,undef],defers:=[] } w:=by
 obtain ⟨ha1,ha2,ha3⟩:=ha
 obtain ⟨hb1,hb2,hb3⟩:=hb
 obtain ⟨hc1,hc2,hc3⟩:=hc
 obtain ⟨hs1,hs2,hs3⟩:=hs
 refine wp_seq (wp_region_lit (l:=[oa]) ?_)
 refine run_to ha3 (some 2) ha2 (Qs ⟨#[]⟩) w (by unfold execOp;rw[ha1];rfl) ?_
 show Exit.then _ _ .normal _ _
 show Code.wp _ _ _ _ _
 refine wp_seq (wp_region_lit (l:=[ob,oc,os]) ?_)
 refine wpList_buildTo hb3 T parts hb1 (some 4) hb2 cs (hbuilt _) ?_
 refine run_to hc3 (some 3) hc2 (Qp (some ⟨w.heap.size,0,none⟩)) (w.alloc (.cells zs T)) (halloc _ _) ?_
 have hheap:(w.alloc (.cells zs T)).heap[w.heap.size]?=some (.cells zs T (0,0)):=by
  show (w.heap.push _)[w.heap.size]?=_
  simp
 refine wpList_store_rowTo hs3 T (.tmp 3) (.tmp 4) hs1 hs2 w.heap.size cs (by rfl) (by rfl) T zs hheap hi hzs h1 ?_
 show Exit.then _ _ .normal _ _
 show Code.wp _ _ _ _ _
 refine h (.agg cs) _ ?_ ?_
 ·intro k v hk
  rw[World.cell?,setRow_heap _ _ _ _ _ _ hheap]
  simpa using hk
 exact ⟨rfl,rfl,rfl,by simp,fun k hk=>by rw[setRow_other _ _ _ _ (by omega)];exact Below.heap_alloc _ _ _ hk⟩
def buildOf (f:Func):Oper:=match f.body with
 |some (.seq _ (.seq (.region _ ops _) _))=>ops.getD 0 default
 |_=>default
def partsOf (o:Oper):Array (Nat × Operand):=match o.op with
 |.build _ parts=>parts
 |_=>#[]
def strOf (v:Value):List UInt8:=match v with
 |Qs s=>s.data.toList
 |_=>[]
def refTab (n:Nat) (f:Func):List (List UInt8):=(List.range n).map fun k=>match (partsOf (buildOf f)).toList.find? fun x=>x.1==k with
 |some (_,.const v)=>strOf v
 |_=>[]
noncomputable def tabOne:List (List UInt8):=refTab 211 Tryz.f216
noncomputable def tabTwo:List (List UInt8):=refTab 18 Tryz.f217
noncomputable def tabThree:List (List UInt8):=refTab 256 Tryz.f218
theorem one_len:tabOne.length=211:=by kernel_rfl
theorem two_len:tabTwo.length=18:=by kernel_rfl
theorem three_len:tabThree.length=256:=by kernel_rfl
theorem sc_at {l:List (List UInt8)} {k:Nat} (h:k<l.length):(sc l).toArray[k]?=some (Qs (str (l.getD k []))):=by
 simp[sc,List.getElem?_eq_getElem h,List.getD_eq_getElem?_getD]
def ops0 (f:Func):Oper:=match f.body with
 |some (.seq (.region _ ops _) _)=>ops.getD 0 default
 |_=>default
def ops1 (f:Func) (k:Nat):Oper:=match f.body with
 |some (.seq _ (.seq (.region _ ops _) _))=>ops.getD k default
 |_=>default
theorem two_says (k:Nat) (hk:k<18) (w:World):Calls QP 217 #[I J k] w fun e w'=>e=Qr (Qs (str (tabTwo.getD k [])))∧Below w.heap.size w w':=by
 refine calls_of_wp (c := .seq (.region 0 #[ops0 Tryz.f217] false) (.seq (.region 1 #[ops1 Tryz.f217 0, ops1 Tryz.f217 1, ops1 Tryz.f217 2] false) (.seq (.region 2 #[{ dst := some 5, op := Op.move (Operand.tmp 0), type := 3, pos := "table.go:45", after := #[], guard := none }, { dst := some 6, op := Op.indexAddr 234 (Operand.tmp 3) (Operand.tmp 5), type := 0, pos := "table.go:45", after := #[{ on := 0, ground := Ground.data }], guard := none }, { dst := some 7, op := Op.load 9 (Operand.tmp 6), type := 9, pos := "table.go:45", after := #[{ on := 1, ground := Ground.data }], guard := none }, { dst := some 2, op := Op.assign (Operand.tmp 7), type := 9, pos := "table.go:45", after := #[{ on := 2, ground := Ground.data }, { on := 0, ground := Ground.phase }, { on := 1, ground := Ground.phase }, { on := 2, ground := Ground.phase }], guard := none }] false) .ret))) Tryz.func217 (by kernel_rfl) ?_
 show Code.wp _ _ _ { tmps:=#[I J k,undef,undef,undef,undef,undef,undef,undef],defers:=[] } _
 refine tab_front (T:=234) (parts:=partsOf (buildOf Tryz.f217)) (cs:=(sc tabTwo).toArray) (zs:=Array.replicate 18 (Qs ⟨#[]⟩)) ⟨by kernel_rfl,by kernel_rfl,by kernel_rfl⟩ ⟨by kernel_rfl,by kernel_rfl,by kernel_rfl⟩ (fun _=>by kernel_rfl) ⟨by kernel_rfl,by kernel_rfl,by kernel_rfl⟩ (fun _ _=>by kernel_rfl) ⟨by kernel_rfl,by kernel_rfl,by kernel_rfl⟩ (by kernel_rfl) (by kernel_rfl) (by kernel_rfl) ?_
 intro v4 W hc hb
 have hcell:=hc k _ (sc_at (by rw[two_len];exact hk))
 obtain ⟨s,hs⟩:∃s,s=str (tabTwo.getD k []):=⟨_,rfl⟩
 rw[←hs]at hcell ⊢
 clear hc hs
 go_wp2
 go_ret
 exact ⟨rfl,hb⟩
theorem one_says (k:Nat) (hk:k<211) (w:World):Calls QP 216 #[I J k] w fun e w'=>e=Qr (Qs (str (tabOne.getD k [])))∧Below w.heap.size w w':=by
 refine calls_of_wp (c := .seq (.region 0 #[ops0 Tryz.f216] false) (.seq (.region 1 #[ops1 Tryz.f216 0, ops1 Tryz.f216 1, ops1 Tryz.f216 2] false) (.seq (.region 2 #[{ dst := some 5, op := Op.move (Operand.tmp 0), type := 3, pos := "table.go:34", after := #[], guard := none }, { dst := some 6, op := Op.indexAddr 233 (Operand.tmp 3) (Operand.tmp 5), type := 0, pos := "table.go:34", after := #[{ on := 0, ground := Ground.data }], guard := none }, { dst := some 7, op := Op.load 9 (Operand.tmp 6), type := 9, pos := "table.go:34", after := #[{ on := 1, ground := Ground.data }], guard := none }, { dst := some 2, op := Op.assign (Operand.tmp 7), type := 9, pos := "table.go:34", after := #[{ on := 2, ground := Ground.data }, { on := 0, ground := Ground.phase }, { on := 1, ground := Ground.phase }, { on := 2, ground := Ground.phase }], guard := none }] false) .ret))) Tryz.func216 (by kernel_rfl) ?_
 show Code.wp _ _ _ { tmps:=#[I J k,undef,undef,undef,undef,undef,undef,undef],defers:=[] } _
 refine tab_front (T:=233) (parts:=partsOf (buildOf Tryz.f216)) (cs:=(sc tabOne).toArray) (zs:=Array.replicate 211 (Qs ⟨#[]⟩)) ⟨by kernel_rfl,by kernel_rfl,by kernel_rfl⟩ ⟨by kernel_rfl,by kernel_rfl,by kernel_rfl⟩ (fun _=>by kernel_rfl) ⟨by kernel_rfl,by kernel_rfl,by kernel_rfl⟩ (fun _ _=>by kernel_rfl) ⟨by kernel_rfl,by kernel_rfl,by kernel_rfl⟩ (by kernel_rfl) (by kernel_rfl) (by kernel_rfl) ?_
 intro v4 W hc hb
 have hcell:=hc k _ (sc_at (by rw[one_len];exact hk))
 obtain ⟨s,hs⟩:∃s,s=str (tabOne.getD k []):=⟨_,rfl⟩
 rw[←hs]at hcell ⊢
 clear hc hs
 go_wp2
 go_ret
 exact ⟨rfl,hb⟩
theorem three_says (k:Nat) (hk:k<256) (w:World):Calls QP 218 #[I J k] w fun e w'=>e=Qr (Qs (str (tabThree.getD k [])))∧Below w.heap.size w w':=by
 refine calls_of_wp (c := .seq (.region 0 #[ops0 Tryz.f218] false) (.seq (.region 1 #[ops1 Tryz.f218 0, ops1 Tryz.f218 1, ops1 Tryz.f218 2] false) (.seq (.region 2 #[{ dst := some 5, op := Op.move (Operand.tmp 0), type := 3, pos := "table.go:95", after := #[], guard := none }, { dst := some 6, op := Op.indexAddr 235 (Operand.tmp 3) (Operand.tmp 5), type := 0, pos := "table.go:95", after := #[{ on := 0, ground := Ground.data }], guard := none }, { dst := some 7, op := Op.load 9 (Operand.tmp 6), type := 9, pos := "table.go:95", after := #[{ on := 1, ground := Ground.data }], guard := none }, { dst := some 2, op := Op.assign (Operand.tmp 7), type := 9, pos := "table.go:95", after := #[{ on := 2, ground := Ground.data }, { on := 0, ground := Ground.phase }, { on := 1, ground := Ground.phase }, { on := 2, ground := Ground.phase }], guard := none }] false) .ret))) Tryz.func218 (by kernel_rfl) ?_
 show Code.wp _ _ _ { tmps:=#[I J k,undef,undef,undef,undef,undef,undef,undef],defers:=[] } _
 refine tab_front (T:=235) (parts:=partsOf (buildOf Tryz.f218)) (cs:=(sc tabThree).toArray) (zs:=Array.replicate 256 (Qs ⟨#[]⟩)) ⟨by kernel_rfl,by kernel_rfl,by kernel_rfl⟩ ⟨by kernel_rfl,by kernel_rfl,by kernel_rfl⟩ (fun _=>by kernel_rfl) ⟨by kernel_rfl,by kernel_rfl,by kernel_rfl⟩ (fun _ _=>by kernel_rfl) ⟨by kernel_rfl,by kernel_rfl,by kernel_rfl⟩ (by kernel_rfl) (by kernel_rfl) (by kernel_rfl) ?_
 intro v4 W hc hb
 have hcell:=hc k _ (sc_at (by rw[three_len];exact hk))
 obtain ⟨s,hs⟩:∃s,s=str (tabThree.getD k []):=⟨_,rfl⟩
 rw[←hs]at hcell ⊢
 clear hc hs
 go_wp2
 go_ret
 exact ⟨rfl,hb⟩
abbrev Rw:=Int × List UInt8 × Int × List UInt8 × List UInt8 × Bool
def rw0:Rw:=(-1,[],0,[],[],false)
def rwV (r:Rw):Value:=.agg #[I J r.1,Qs (str r.2.1),I J r.2.2.1,Qs (str r.2.2.2.1),Qs (str r.2.2.2.2.1),G r.2.2.2.2.2]
theorem none_says (w:World):Calls QP 220 #[] w fun e w'=>e=Qr (rwV rw0)∧Below w.heap.size w w':=by
 go_enter Tryz.func220,Tryz.ntmps220
 go_wp2
 exact bodyPost_ret (v:=rwV rw0) (by simp[results,Tryz.results220,go_sem,rwV,rw0,str]) rfl ⟨rfl,(QB _ _).alloc (Ql _) _⟩
def digF (n:Int) (c:UInt8):Int:=n*10+(c.toNat:Int)-48
def digL (l:List UInt8):Int:=l.foldl digF 0
theorem dig_succ (l:List UInt8) (n:Nat) (h:n<l.length):digL (l.take (n+1))=digL (l.take n)*10+(l[n].toNat:Int)-48:=by
 rw[List.take_add_one,List.getElem?_eq_getElem h]
 unfold digL
 rw[List.foldl_append]
 rfl
theorem dig_bound (l:List UInt8):∀n,n≤l.length→-(1000^n:Int)≤digL (l.take n)∧digL (l.take n)≤1000^n
 |0,_=>by simp[digL]
 |n+1,h=>by
  have ih:=dig_bound l n (by omega)
  have hc:=(l[n]'(by omega)).toNat_lt
  rw[dig_succ l n (by omega),Int.pow_succ]
  have hp:(1:Int)≤1000^n:=by have:=Int.pow_pos (n:=1000) (m:=n) (by decide);omega
  generalize (1000:Int)^n=p at ih hp ⊢
  omega
theorem digits_says (l:List UInt8) (hl:l.length≤4) (w:World):Calls QP 221 #[Qs (str l)] w fun e w'=>e=Qr (I J (digL l))∧Below w.heap.size w w':=by
 obtain ⟨s,hs⟩:∃s,s=str l:=⟨_,rfl⟩
 have hsz:s.size=l.length:=by rw[hs,str_size]
 rw[←hs]
 have HS:=hid hs
 clear hs
 obtain ⟨L,hL⟩:∃L,L=l.length:=⟨_,rfl⟩
 rw[←hL]at hsz hl
 have HL:=hid hL
 clear hL
 go_enter Tryz.func221,Tryz.ntmps221
 go_wp2
 go_loopw [3,4] (fun vn vi wr=>∃n:Nat,Hid (n≤L)∧vi=I J n∧vn=I J (digL (l.take n))∧Hid (Below w.heap.size w wr)) (fun _ vi _=>5-(intOf vi).toNat)
 case atStart=>exact ⟨0,Qz _,rfl,rfl,QB _ _⟩
 obtain ⟨n,hn,rfl,rfl,HR⟩:=hrel
 by_cases hlt:n<L
 ·have hn1:=hid (show n+1≤L by omega)
  have hnll:n<l.length:=by rw[←HL.out];exact hlt
  obtain ⟨c,hc⟩:∃c,c=l[n]'hnll:=⟨_,rfl⟩
  have hget:∀h:n<s.size,(s[n]'h)=c:=fun h=>by
   have e:=HS.out
   subst e
   exact (str_get l n hnll _).trans hc.symm
  have HD:=hid (dig_succ l n hnll)
  rw[←hc]at HD
  have hb:=dig_bound l n (Nat.le_of_lt hnll)
  obtain ⟨q,hq⟩:∃q,q=digL (l.take n):=⟨_,rfl⟩
  rw[←hq]at hb HD ⊢
  have hcl:=c.toNat_lt
  have hb2:-1000000000000≤q∧q≤1000000000000:=by
   have hn4:n=0∨n=1∨n=2∨n=3:=by omega
   rcases hn4 with rfl|rfl|rfl|rfl<;>simp at hb<;>omega
  have e1:wrap64 (q*10)=q*10:=by unfold wrap64;omega
  have e2:wrap64 (q*10+(c.toNat:Int))=q*10+(c.toNat:Int):=by unfold wrap64;omega
  have e3:wrap64 (q*10+(c.toNat:Int)-48)=q*10+(c.toNat:Int)-48:=by unfold wrap64;omega
  have e4:wrap64 (c.toNat:Int)=(c.toNat:Int):=by unfold wrap64;omega
  clear hb hb2 hcl hc hq
  go_wp2
  go_roundw
  case rel=>exact ⟨n+1,hn1.out,by go_num,by rw[HD.out,e3],HR.out⟩
  case measure=>(first|(simp[intOf];done)|(simp[intOf];omega))
 obtain rfl:n=L:=by have:=hn.out;omega
 rw[show l.take n=l by rw[HL.out,List.take_length]]
 obtain ⟨q,hq⟩:∃q,q=digL l:=⟨_,rfl⟩
 rw[←hq]
 go_wp2
 go_ret
 exact ⟨by rw[←hq];rfl,HR.out⟩
def typesL (t:Nat):List Int:=((glob5.drop (3*t)).take 3).takeWhile fun z=>z !=0
def tyOf (c:UInt8):Option Int:=if c=105 then some 127 else if c=108 then some 126 else if c=102 then some 125 else if c=100 then some 124 else if c=118 then some 123 else if c=110 then some 112 else none
def tyL (l:List UInt8):List Int:=l.filterMap tyOf
noncomputable def textOf (op:Int):List UInt8 :=
 if 0≤op∧op<211 then tabOne.getD op.toNat [] else if 64512≤op∧op<64530 then tabTwo.getD (op-64512).toNat [] else if 64768≤op∧op<65024 then tabThree.getD (op-64768).toNat [] else []
def stepS (p:Bool × List UInt8 × List UInt8) (c:UInt8):Bool × List UInt8 × List UInt8 :=
 match p with
 |(b,t,l)=>if c=62 then (true,t,l) else if b then (b,t,l++[c]) else (b,t++[c],l)
def sst (l:List UInt8) (n:Nat):Bool × List UInt8 × List UInt8:=(l.take n).foldl stepS (false,[],[])
def ofText (op:Int) (t:List UInt8):Rw :=
 match wordsL t with
 | [a,b,c]=>if c=[63] then (op,a,digL b,[],[],false) else (op,a,digL b,(sst c c.length).2.1,(sst c c.length).2.2,true)
 |_=>rw0
noncomputable def ofL (op:Int):Rw:=ofText op (textOf op)
def okText (t:List UInt8):Bool:=decide (t.length≤100)&&(match wordsL t with|[a,b,c]=>decide (b.length≤4)&&decide (c.length≤100)|_=>true)
theorem texts_ok:(rangeOps.all fun op=>okText (textOf op))=true:=by kernel_rfl
theorem text_out (op:Int) (h:¬op∈rangeOps):textOf op=[]:=by
 rw[mem_rangeOps]at h
 unfold textOf
 rw[if_neg (by omega),if_neg (by omega),if_neg (by omega)]
theorem text_ok (op:Int):okText (textOf op)=true:=by
 by_cases h:op∈rangeOps
 ·exact List.all_eq_true.1 texts_ok op h
 rw[text_out op h];rfl
noncomputable def agree (op:Int):Bool :=
 let r:=ofL op
 let l:=lineL op
 (knB l==decide (0≤r.1))&&(l.1.data.toList==r.2.1)&&(l.2.1==r.2.2.1)&&(fxB l==r.2.2.2.2.2) &&
 ((if fxB l then typesL l.2.2.1.toNat else [])==tyL r.2.2.2.1)&&((if fxB l then typesL l.2.2.2.toNat else [])==tyL r.2.2.2.2.1)&&decide (r.2.2.2.1.length≤100)&&decide (r.2.2.2.2.1.length≤100) &&
 (r.1==-1||r.1==op)
theorem agree_all:(rangeOps.all agree)=true:=by kernel_rfl
def WordsPost (w:World) (l:List UInt8) (e:Ending) (w':World):Prop :=
 ∃v,e=Qr v∧w'.ownsRow w.heap.size 9 1 v (wordsL l).length (sc (wordsL l))∧Below w.heap.size w w'
def WRel (w:World) (l:List UInt8) (n:Nat) (vo vw:Value) (wr:World):Prop :=
 vw=Qs (str (wst l n).2)∧wr.ownsRow w.heap.size 9 1 vo (wst l n).1.length (sc (wst l n).1)∧Below w.heap.size w wr
theorem beq_str_empty (x:List UInt8):(str x).toList.isEmpty=decide (x=[]):=by rw[str_list];cases x<;>simp
theorem rel_sp0 {w wr:World} {l:List UInt8} {n:Nat} {o:List (List UInt8)} {x:List UInt8} {vo:Value} (hp:wst l n=(o,x)) (hC:wst l (n+1)=stepW (wst l n) 32) (hx:x=[])
  (hown:wr.ownsRow w.heap.size 9 1 vo o.length (sc o)) (hb:Below w.heap.size w wr):WRel w l (n+1) vo (Qs ⟨#[]⟩) wr:=by
 unfold WRel
 rw[hC,hp]
 subst hx
 exact ⟨rfl,hown,hb⟩
theorem rel_sp1 {w wr:World} {l:List UInt8} {n:Nat} {o:List (List UInt8)} {x:List UInt8} {vo:Value} (hp:wst l n=(o,x)) (hC:wst l (n+1)=stepW (wst l n) 32) (hx:¬x=[])
  (hown:wr.ownsRow w.heap.size 9 1 vo (o.length+1) (sc o++[Qs (str x)])) (hb:Below w.heap.size w wr):WRel w l (n+1) vo (Qs ⟨#[]⟩) wr:=by
 unfold WRel
 rw[hC,hp]
 have e:stepW (o,x) 32=(o++[x],[]):=by simp[stepW,hx]
 rw[e]
 refine ⟨rfl,?_,hb⟩
 simpa[sc]using hown
theorem rel_ch {w wr:World} {l:List UInt8} {n:Nat} {c:UInt8} {o:List (List UInt8)} {x:List UInt8} {vo:Value} (hp:wst l n=(o,x)) (hC:wst l (n+1)=stepW (wst l n) c) (hc:¬c=32)
  (hown:wr.ownsRow w.heap.size 9 1 vo o.length (sc o)) (hb:Below w.heap.size w wr):WRel w l (n+1) vo (Qs (str (x++[c]))) wr:=by
 unfold WRel
 rw[hC,hp]
 have e:stepW (o,x) c=(o,x++[c]):=by simp[stepW,hc]
 rw[e]
 exact ⟨rfl,hown,hb⟩
theorem words_says (l:List UInt8) (hl:l.length≤100) (w:World):Calls QP 219 #[Qs (str l)] w (WordsPost w l):=by
 obtain ⟨s,hs⟩:∃s,s=str l:=⟨_,rfl⟩
 have hsz:s.size=l.length:=by rw[hs,str_size]
 rw[←hs]
 have HS:=hid hs
 clear hs
 obtain ⟨L,hL⟩:∃L,L=l.length:=⟨_,rfl⟩
 rw[←hL]at hsz hl
 have HL:=hid hL
 clear hL
 go_enter Tryz.func219,Tryz.ntmps219
 go_wp2
 go_loopw [3,4,5] (fun vo vw vi wr=>∃n:Nat,Hid (n≤L+1)∧vi=I J n∧Hid (WRel w l n vo vw wr)) (fun _ _ vi _=>101-(intOf vi).toNat)
 case atStart=>exact ⟨0,Qz _,rfl,rfl,World.ownsRow_nil w w.heap.size 9 1,QB _ _⟩
 obtain ⟨n,hn,rfl,HR⟩:=hrel
 obtain ⟨o,x,hp⟩:∃o x,wst l n=(o,x):=⟨_,_,rfl⟩
 have hlen:=wst_len l n
 rw[hp]at hlen
 have hrel:=HR.out
 unfold WRel at hrel
 rw[hp]at hrel
 obtain ⟨rfl,hown,hb⟩:=hrel
 dsimp only at hown hlen
 by_cases hlt:n≤L
 ·have hn1:=hid (show n+1≤L+1 by omega)
  have hlenH:=hid hlen
  have HO:=hid hown
  have HB:=hid hb
  have hsz2:=hb.size
  have HP:=hid hp
  clear hown hb hp hlen
  have hxe:=beq_str_empty x
  by_cases hnL:n=L
  ·subst hnL
   have HC:=hid (wst_succ l n 32 (by rw[List.getElem?_append_right (by rw[HL.out];exact Ql _)];simp[HL.out]))
   by_cases hx:x=[]
   ·have hx2:=hid hx
    rw[decide_eq_true hx]at hxe
    obtain ⟨xs,hxs⟩:∃xs,xs=str x:=⟨_,rfl⟩
    rw[←hxs]at hxe ⊢
    clear hx hxs
    go_wp2
    go_roundw
    case rel=>exact ⟨n+1,hn1.out,by go_num,rel_sp0 HP.out HC.out hx2.out HO.out HB.out⟩
    case measure=>(first|(simp[intOf];done)|(simp[intOf];omega))
   have hx2:=hid hx
   rw[decide_eq_false hx]at hxe
   obtain ⟨xs,hxs⟩:∃xs,xs=str x:=⟨_,rfl⟩
   rw[←hxs]at hxe ⊢
   have hxsH:=hid hxs
   clear hx hxs
   go_wp2_with (at_builtin;refine append_str rfl _ _ rfl w.heap.size _ _ _ xs HO.out hsz2 (by have:=hlenH.out;have:=hn.out;omega) rfl rfl ?_;intro v' w3 hown' hnx3 hsz3)
   go_roundw
   case rel=>exact ⟨n+1,hn1.out,by go_num,rel_sp1 HP.out HC.out hx2.out (by rw[←hxsH.out];exact hown') (HB.out.trans hnx3)⟩
   case measure=>(first|(simp[intOf];done)|(simp[intOf];omega))
  have hnl:n<L:=by omega
  have hnll:n<l.length:=by rw[←HL.out];exact hnl
  obtain ⟨c,hc⟩:∃c,c=l[n]'hnll:=⟨_,rfl⟩
  have HC:=hid (wst_succ l n c (by rw[List.getElem?_append_left hnll,List.getElem?_eq_getElem hnll,hc]))
  have hget:∀h:n<s.size,(s[n]'h)=c:=fun h=>by
   have e:=HS.out
   subst e
   exact (str_get l n hnll _).trans hc.symm
  by_cases hc32:c=32
  ·have hcn:(c.toNat:Int)=32:=by rw[hc32];rfl
   have HC:=hid (show wst l (n+1)=stepW (wst l n) 32 by rw[←hc32];exact HC.out)
   clear hc32 hc
   by_cases hx:x=[]
   ·have hx2:=hid hx
    rw[decide_eq_true hx]at hxe
    obtain ⟨xs,hxs⟩:∃xs,xs=str x:=⟨_,rfl⟩
    rw[←hxs]at hxe ⊢
    clear hx hxs
    go_wp2
    go_roundw
    case rel=>exact ⟨n+1,hn1.out,by go_num,rel_sp0 HP.out HC.out hx2.out HO.out HB.out⟩
    case measure=>(first|(simp[intOf];done)|(simp[intOf];omega))
   have hx2:=hid hx
   rw[decide_eq_false hx]at hxe
   obtain ⟨xs,hxs⟩:∃xs,xs=str x:=⟨_,rfl⟩
   rw[←hxs]at hxe ⊢
   have hxsH:=hid hxs
   clear hx hxs
   go_wp2_with (at_builtin;refine append_str rfl _ _ rfl w.heap.size _ _ _ xs HO.out hsz2 (by have:=hlenH.out;have:=hn.out;omega) rfl rfl ?_;intro v' w3 hown' hnx3 hsz3)
   go_roundw
   case rel=>exact ⟨n+1,hn1.out,by go_num,rel_sp1 HP.out HC.out hx2.out (by rw[←hxsH.out];exact hown') (HB.out.trans hnx3)⟩
   case measure=>(first|(simp[intOf];done)|(simp[intOf];omega))
  have hcn:((c.toNat:Int)==32)=false:=by
   rw[beq_eq_false_iff_ne]
   intro e
   apply hc32
   exact UInt8.toNat_inj.1 (by have:(32:UInt8).toNat=32:=rfl;omega)
  have hadd:=fun W=>run_string_add_sum (P:=QP) W (str x) (s.extract n (n+1)) (by rw[str_size,ByteArray.size_extract];have:=hlenH.out;have:=hn.out;omega)
  have hsn:str x++s.extract n (n+1)=str (x++[c]):=by rw[HS.out,str_snoc x l n hnll,hc]
  rw[hsn]at hadd
  obtain ⟨xs,hxs⟩:∃xs,xs=str x:=⟨_,rfl⟩
  obtain ⟨ys,hys⟩:∃ys,ys=str (x++[c]):=⟨_,rfl⟩
  rw[←hxs,←hys]at hadd
  rw[←hxs]at hxe ⊢
  have hysH:=hid hys
  have hccH:=hid hc32
  clear hsn hxs hys hc32 hc hxe
  go_wp2
  go_roundw
  case rel=>exact ⟨n+1,hn1.out,by go_num,by rw[hysH.out];exact rel_ch HP.out HC.out hccH.out HO.out HB.out⟩
  case measure=>(first|(simp[intOf];done)|(simp[intOf];omega))
 obtain rfl:n=L+1:=by have:=hn.out;omega
 go_wp2
 go_ret
 refine ⟨_,rfl,?_,hb⟩
 have e:wordsL l=o:=by unfold wordsL;rw[←HL.out,hp]
 rw[e]
 exact hown
end Go.Proofs.YtjgeedgphcjhoaaGreat
