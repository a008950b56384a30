/-
  RElem, RBody: merged, what the law does not reach left out (each text says what it holds where it lies in wip). No condition.
-/
import Derived.Test.YtjgeedgphcjhoaaGreatS24
import Derived.Deep.CutBlock
import Derived.Test.YtjgeedgphcjhoaaGreatS16
import Derived.Test.YtjgeedgphcjhoaaGreatS01
set_option linter.unusedSimpArgs false
set_option linter.unusedVariables false
set_option maxRecDepth 100000
set_option maxHeartbeats 64000000
namespace Go.Proofs.YtjgeedgphcjhoaaGreat
open Go.RowKit
open Value renaming int → I,slice → V,bool → G,pointer → Qp
open IntKind renaming i64 → J
open Obj renaming cells → Qc
open _root_.Go.Proofs.Tryz renaming prog → QP
open Nat renaming le_refl → Ql,le_trans → Qk,zero_le → Qz
open List renaming length_append → QA,length_cons → QC,length_nil → QN,append_assoc → QS,range → QR
open Below renaming refl → QB
open World renaming cell?_of_block → QW
open Act renaming put → Qu
open Lib renaming byteCells → QY
noncomputable def meB (fb:Bool) (r m t:Int) (c:List UInt8):List UInt8:=if m=0 then (if t=0∧r=112 then (if fb=true then 0 else 4)::c else (if fb=true then 2 else 6)::(uI t++c++[if fb=true then 0 else byI r])) else if m=1 then [if fb=true then 1 else 5,if fb=true then 0 else byI r] else [if fb=true then 3 else 7,if fb=true then 0 else byI r]
theorem own_lit2c (w:World) (q1 q2:Int) (b1 b2:UInt8) (h1:(b1.toNat:Int)=q1) (h2:(b2.toNat:Int)=q2):(w.alloc (Qc #[.int .u8 q1,.int .u8 q2] 5)).ownsRow w.heap.size 5 1 (V (some ⟨w.heap.size,0,none⟩) 2 2) [b1,b2].length (QY [b1,b2]):=by
 have:=World.ownsRow_lit (base:=w.heap.size) (e:=5) (size:=1) w #[.int .u8 q1,.int .u8 q2] 2 (Ql _) (by decide) rfl
 have e:QY [b1,b2]=[.int .u8 q1,.int .u8 q2]:=by simp[QY,h1,h2]
 rw[e]
 exact this
theorem all_snocR (P:Nat→Bool) (i:Nat) (b0:Bool):(b0&&(QR (i+1)).all P)=((b0&&(QR i).all P)&&P i):=by
 rw[range_all_snoc,Bool.and_assoc]
theorem Relem_says (r m t:Int) (po pi:Option Addr) (no co ni ci ib io:Nat) (c0:List UInt8) (gf:Nat→Fo) (q:Nat→Option Addr) (d:Nat→Nat) (fb:Bool) (w:World) (hk:KO w.heap.size w pi ni ib io gf q d)
  (hfb:fb=((r==112)&&(QR ni).all (fun k=>isFun (gf k)))) (hm:m=0∨m=1∨m=2)
  (hE0:∀W,Below w.heap.size w W→Calls QP 27 #[V po no co] W (BO W c0)) (hEk:∀k,k<ni→∀W,Below w.heap.size w W→Calls QP 27 #[V (q k) (gf k).len (d k)] W (BO W (codL (gf k))))
  (hc0:c0.length≤1000000000000) (hln:(flB ni (fun k=>iniL fb (gf k))).length≤1000000000000) :
  Calls QP 131 #[.agg #[I J r,I J m,I J t,V po no co,V pi ni ci]] w (BO w (meB fb r m t c0++(uI ni++flB ni (fun k=>iniL fb (gf k))))):=by
 obtain ⟨⟨hn,hp,hx⟩,hc⟩:=hk
 have nn62:(ni:Int)<9223372036854775807:=by omega
 have HP:=hid hp
 have HXX:=hid hx
 have HCC:=hid hc
 have HFB:=hid hfb
 have HM:=hid hm
 have HE0:=hid hE0
 have HEK:=hid hEk
 obtain ⟨F,hF⟩:∃F:Nat→List UInt8,F=(fun k=>iniL fb (gf k)):=⟨_,rfl⟩
 rw[←hF]at hln ⊢
 have HF:=hid hF
 have HLN:=hid hln
 have HC0:=hid hc0
 have HX0:=hid (CA.new w #[I J r,I J m,I J t,V po no co,V pi ni ci] 62)
 have HB0:=hid ((QB w.heap.size w).alloc (Ql _) (Qc #[I J r,I J m,I J t,V po no co,V pi ni ci] 62))
 have HR0:=hid ((RF.refl w.heap.size w).alloc (Qc #[I J r,I J m,I J t,V po no co,V pi ni ci] 62))
 clear hn hp hx hc hfb hm hE0 hEk hF hln hc0
 go_enter Tryz.func131,Tryz.ntmps131
 go_upto_region 1 with fail
 generalize w.alloc (Qc #[I J r,I J m,I J t,V po no co,V pi ni ci] 62)=W0 at *
 have y0:=HX0.out.at (k:=0) (v:=I J r) rfl
 obtain ⟨b0,hb0⟩:∃b,(r==112)=b:=⟨_,rfl⟩
 have hb1:decide (r=112)=b0:=by rw[←hb0];rfl
 have HB1:=hid hb0
 go_upto_block 0 with fail
 clear hb0 hb1 y0
 go_cut [3] (fun s wx=>s=G fb∧W0=wx)
 case first=>as_aux_lemma =>
  have y4:=HX0.out.at (k:=4) (v:=V pi ni ci) rfl
  go_wp2
  go_loop [3,4] (fun vo vi=>∃(i:Nat) (ok:Bool),i≤ni∧vi=I J i∧vo=G ok∧Hid (ok=(b0&&(QR i).all (fun k=>isFun (gf k))))) (fun _ vi=>ni-(intOf vi).toNat)
  case atStart=>exact ⟨0,b0,Qz _,rfl,rfl,hid (by simp)⟩
  obtain ⟨i,ok,hi,rfl,rfl,HK⟩:=hrel
  by_cases hlt:i<ni
  ·as_aux_lemma =>
   have HS:∀b,isFun (gf i)=b→Hid ((ok&&b)=(b0&&(QR (i+1)).all (fun k=>isFun (gf k)))):=fun b hb=>hid (by rw[all_snocR,←HK.out,hb])
   cases ok with
   |false =>
    have HS2:=HS _ rfl
    rw[Bool.false_and]at HS2
    clear hi
    go_wp2
    go_round
    case rel=>exact ⟨i+1,_,hlt,by go_num,rfl,HS2⟩
    case measure=>simp[intOf];omega
   |true =>
    obtain ⟨hpe,hg⟩:=HP.out (by omega)
    subst hpe
    have z0:w.cell? ⟨ib,io+i,none⟩=some (V (q i) (gf i).len (d i)):=by have:=HXX.out i hlt 0 _ rfl;simpa using this
    have x0:=(HB0.out.cell (p:=⟨ib,io+i,none⟩) hg).trans z0
    have hci:=(HCC.out i hlt).1
    have hbi:=SA.below hci HB0.out
    generalize hfi:gf i=f at *
    generalize q i=qi at *
    generalize d i=di at *
    clear y4
    have y4:=HX0.out.at (k:=4) (v:=V (some ⟨ib,io,none⟩) ni ci) rfl
    cases f with
    |nil =>
     have HS2:=HS _ rfl
     have HS3:=hid (show false=(b0&&(QR (i+1)).all (fun k=>isFun (gf k))) from HS2.out)
     clear z0 hci hbi HS HS2 hfi hg hi
     obtain ⟨ln,hln⟩:∃n:Nat,n=Fo.nil.len:=⟨_,rfl⟩
     rw[←hln]at x0
     have hne:((ln:Int)==1)=false:=by rw[hln];rfl
     have hnd:decide ((ln:Int)=1)=false:=by rw[hln];rfl
     clear hln
     go_wp2
     go_round
     case rel=>exact ⟨i+1,_,hlt,by go_num,rfl,HS3⟩
     case measure=>simp[intOf];omega
    |cons op a b2 n2 h2 l2 ot body els rest =>
     cases rest with
     |cons op' a' b' n' h' l' ot' body' els' rest' =>
      have HS2:=HS _ rfl
      have HS3:=hid (show false=(b0&&(QR (i+1)).all (fun k=>isFun (gf k))) from HS2.out)
      have hl2:(Fo.cons op a b2 n2 h2 l2 ot body els (.cons op' a' b' n' h' l' ot' body' els' rest')).len=rest'.len+1+1:=rfl
      rw[hl2]at x0
      have hne:(((rest'.len+1+1:Nat):Int)==1)=false:=by simp;omega
      have hnd:decide (((rest'.len+1+1:Nat):Int)=1)=false:=by simp;omega
      clear z0 hci hbi HS HS2 hfi hg hi hl2
      generalize rest'.len+1+1=ln at *
      go_wp2
      go_round
      case rel=>exact ⟨i+1,_,hlt,by go_num,rfl,HS3⟩
      case measure=>simp[intOf];omega
     |nil =>
      obtain ⟨p',c',g',o',e1,e2,e3⟩:=hbi
      injection e1 with e1 e6 e5
      subst e1
      subst e5
      clear e6
      obtain rfl:=e2 (by simp[Fo.len])
      obtain ⟨-,⟨-,-,-,u0,-⟩,-⟩:=e3
      replace x0:W0.cell? ⟨ib,io+i,none⟩=some (V (some ⟨g',o',none⟩) 1 _):=x0
      have HS2:=HS (op==210) rfl
      rw[Bool.true_and]at HS2
      clear z0 hci HS hfi hg hi e2
      by_cases ho:op=210
      ·subst ho
       have HS3:=hid (show true=(b0&&(QR (i+1)).all (fun k=>isFun (gf k))) from HS2.out)
       clear HS2
       go_wp2
       go_round
       case rel=>exact ⟨i+1,_,hlt,by go_num,rfl,HS3⟩
       case measure=>simp[intOf];omega
      have hn1:(op==210)=false:=by simpa using ho
      have hn2:decide (op=210)=false:=by simpa using ho
      rw[hn1]at HS2
      clear ho
      go_wp2
      go_round
      case rel=>exact ⟨i+1,_,hlt,by go_num,rfl,HS2⟩
      case measure=>simp[intOf];omega
  have hie:ni=i:=by omega
  subst hie
  go_wp2
  go_meet
  exact ⟨by rw[HFB.out,HB1.out,←HK.out],rfl⟩
 obtain ⟨rfl,rfl⟩:=hcut
 have y0:=HX0.out.at (k:=0) (v:=I J r) rfl
 have y1:=HX0.out.at (k:=1) (v:=I J m) rfl
 have y2:=HX0.out.at (k:=2) (v:=I J t) rfl
 have y3:=HX0.out.at (k:=3) (v:=V po no co) rfl
 cases fb with
 |true =>
  go_upto_region 12 with fail
  obtain ⟨CB,hCB⟩:∃b,b=(decide (m=0)&&(decide (t=0)&&decide (r=112))):=⟨_,rfl⟩
  have HCB:=hid hCB
  clear hCB
  go_cut [56] (fun c wx=>c=G CB∧W0=wx)
  case first=>as_aux_lemma =>
   clear HM
   by_cases hm:m=0
   ·subst hm
    by_cases ht:t=0
    ·subst ht
     by_cases hr:r=112
     ·subst hr
      obtain rfl:CB=true:=by rw[HCB.out];simp
      go_wp2
      go_meet
      exact ⟨rfl,rfl⟩
     have hr1:(r==112)=false:=by simpa using hr
     have hr2:decide (r=112)=false:=by simpa using hr
     obtain rfl:CB=false:=by rw[HCB.out];simp[hr]
     clear hr
     go_wp2
     go_meet
     exact ⟨rfl,rfl⟩
    have ht1:(t==0)=false:=by simpa using ht
    have ht2:decide (t=0)=false:=by simpa using ht
    obtain rfl:CB=false:=by rw[HCB.out];simp[ht]
    clear ht
    go_wp2
    go_meet
    exact ⟨rfl,rfl⟩
   have hm1:(m==0)=false:=by simpa using hm
   have hm2:decide (m=0)=false:=by simpa using hm
   obtain rfl:CB=false:=by rw[HCB.out];simp[hm]
   clear hm
   go_wp2
   go_meet
   exact ⟨rfl,rfl⟩
  case rest =>
   obtain ⟨rfl,rfl⟩:=hcut
   go_upto_if 56 with fail
   go_cut [7] (fun o wx=>∃(p:Option Addr) (z c:Nat) (D:List UInt8),o=V p z c∧Hid (wx.ownsRow w.heap.size 5 1 (V p z c) D.length (QY D))∧Hid (D=meB true r m t c0)∧Hid (D.length≤1000000000100)∧Hid (RF w.heap.size w wx)∧Hid (CA w.heap.size #[I J r,I J m,I J t,V po no co,V pi ni ci] 62 wx))
   case first=>as_aux_lemma =>
    cases CB with
    |true =>
     obtain ⟨h1,h2,h3⟩:m=0∧t=0∧r=112:=by have:=HCB.out;simpa using this
     subst h1
     subst h2
     subst h3
     have HNa:=hid (show ([0]:List UInt8).length+c0.length≤140737488355000 by have:=HC0.out;simp only[QC,QN];omega)
     have HT:=hid (own_less (own_litc W0 0 0 rfl) HB0.out.size)
     have HRT:=hid (HR0.out.alloc (Qc #[.int .u8 0] 5))
     have HXT:=hid (HX0.out.alloc (Qc #[.int .u8 0] 5))
     have t3:=HXT.out.at (k:=3) (v:=V po no co) rfl
     go_wp2_with (first
      |(go_at_call 27;(with_reducible refine (HE0.out _ (HRT.out.below (Ql _))).mono ?_);rintro e w1 ⟨v,rfl,ho,hb⟩;obtain ⟨p1,m1,c1,rfl⟩:=own_slice ho;have HO1:=hid ho;have HA1:=hid (own_kept HT.out hb);have HQ1:=hid (HRT.out.trans (RF.of hb));have HX1:=Qe HXT hb;clear ho hb)
      |(at_builtin;refine append_rowW rfl _ _ rfl w.heap.size _ _ _ _ _ w1 HA1.out HO1.out HNa.out HQ1.out.size (RF.refl _ _) rfl rfl ?_;intro pO mO cO W1 ho3 hf3;have HOW:=hid ho3;have HRW:=hid (HQ1.out.trans hf3);have HXW:=hid (HX1.out.rf hf3 (by decide));clear ho3 hf3))
     have HBW:=hid (HRW.out.below (Ql _))
     obtain ⟨D,hD⟩:∃D:List UInt8,D=[0]++c0:=⟨_,rfl⟩
     have HD:=hid hD
     have HDL:=hid (show D.length≤1000000000100 by have:=HC0.out;rw[hD];simp only[QA,QC,QN];omega)
     rw[←hD]at HOW
     clear hD y0 y1 y2 y3 t3 HT HRT HXT HO1 HA1 HQ1 HX1
     go_meet
     exact ⟨_,_,_,D,rfl,HOW,hid (by rw[HD.out];simp[meB]),HDL,HRW,HXW⟩
    |false =>
     rcases HM.out with rfl|rfl|rfl
     ·have HTR:=hid (show ¬(t=0∧r=112) by have:=HCB.out;simp at this;exact fun h=>this h.1 h.2)
      have q1:=uI_len t
      have q2:=HC0.out
      have HNa:=hid (show ([2]:List UInt8).length+(uI t).length≤140737488355000 by simp only[QC,QN];omega)
      have HNb:=hid (show ([2]++uI t).length+c0.length≤140737488355000 by simp only[QA,QC,QN];omega)
      have HNc:=hid (show ([2]++uI t++c0).length+([0]:List UInt8).length≤140737488355000 by simp only[QA,QC,QN];omega)
      have HT:=hid (own_less (own_litc W0 2 2 rfl) HB0.out.size)
      have HRT:=hid (HR0.out.alloc (Qc #[.int .u8 2] 5))
      have HXT:=hid (HX0.out.alloc (Qc #[.int .u8 2] 5))
      have t2:=HXT.out.at (k:=2) (v:=I J t) rfl
      clear q1 q2
      go_wp2_with (first
       |(go_at_call 133;(with_reducible refine (RU_says t _).mono ?_);rintro e w1 ⟨v,rfl,ho,hb⟩;obtain ⟨p1,m1,c1,rfl⟩:=own_slice ho;have HO1:=hid ho;have HA1:=hid (own_kept HT.out hb);have HQ1:=hid (HRT.out.trans (RF.of hb));have HX1:=Qe HXT hb;clear ho hb)
       |(at_builtin;refine append_rowW rfl _ _ rfl w.heap.size _ _ _ _ _ w1 HA1.out HO1.out HNa.out HQ1.out.size (RF.refl _ _) rfl rfl ?_;intro p2 m2 c2 w2 ho3 hf3;have HO2:=hid ho3;have HQ2:=hid (HQ1.out.trans hf3);have HX2:=hid (HX1.out.rf hf3 (by decide));have v3:=HX2.out.at (k:=3) (v:=V po no co) rfl;clear ho3 hf3 HA1 HO1)
       |(go_at_call 27;(with_reducible refine (HE0.out _ (HQ2.out.below (Ql _))).mono ?_);rintro e w3 ⟨v,rfl,ho,hb⟩;obtain ⟨p3,m3,c3,rfl⟩:=own_slice ho;have HO3:=hid ho;have HA3:=hid (own_kept HO2.out hb);have HQ3:=hid (HQ2.out.trans (RF.of hb));have HX3:=Qe HX2 hb;clear ho hb)
       |(at_builtin;refine append_rowW rfl _ _ rfl w.heap.size _ _ _ _ _ w3 HA3.out HO3.out HNb.out HQ3.out.size (RF.refl _ _) rfl rfl ?_;intro p4 m4 c4 w4 ho3 hf3;have HA4:=hid ho3;have HQ4:=hid (HQ3.out.trans hf3);have HX4:=hid (HX3.out.rf hf3 (by decide));clear ho3 hf3 HA3 HO3)
       |(at_builtin;refine append_rowW rfl _ _ rfl w.heap.size _ _ _ _ _ (w4.alloc (Qc #[.int .u8 0] 5)) (own_kept HA4.out ((QB _ _).alloc (Ql _) _)) (own_less (own_litc w4 0 0 rfl) HQ4.out.size) HNc.out (HQ4.out.alloc (Qc #[.int .u8 0] 5)).size (RF.refl _ _) rfl rfl ?_;intro pO mO cO W1 ho3 hf3;have HOW:=hid ho3;have HRW:=hid ((HQ4.out.alloc (Qc #[.int .u8 0] 5)).trans hf3);have HXW:=hid ((HX4.out.alloc (Qc #[.int .u8 0] 5)).rf hf3 (by decide));clear ho3 hf3))
      have HBW:=hid (HRW.out.below (Ql _))
      obtain ⟨D,hD⟩:∃D:List UInt8,D=[2]++uI t++c0++[0]:=⟨_,rfl⟩
      have HD:=hid hD
      have HDL:=hid (show D.length≤1000000000100 by have:=HC0.out;have:=uI_len t;rw[hD];simp only[QA,QC,QN];omega)
      rw[←hD]at HOW
      clear hD y0 y1 y2 y3 v3 t2 HT HRT HXT HQ1 HX1 HO2 HQ2 HX2 HQ3 HX3 HA4 HQ4 HX4
      go_meet
      exact ⟨_,_,_,D,rfl,HOW,hid (by rw[HD.out];unfold meB;rw[if_pos rfl,if_neg HTR.out];simp),HDL,HRW,HXW⟩
     ·go_wp2
      have HOW:=hid (own_less (own_lit2c W0 1 0 1 0 rfl rfl) HB0.out.size)
      have HBW:=hid (HB0.out.alloc HB0.out.size (Qc #[.int .u8 1,.int .u8 0] 5))
      have HRW:=hid (HR0.out.alloc (Qc #[.int .u8 1,.int .u8 0] 5))
      have HXW:=hid (HX0.out.alloc (Qc #[.int .u8 1,.int .u8 0] 5))
      generalize W0.alloc (Qc #[.int .u8 1,.int .u8 0] 5)=W1 at *
      generalize hpp:(some (⟨W0.heap.size,0,none⟩:Addr))=pp at *
      obtain ⟨D,hD⟩:∃D:List UInt8,D=[1,0]:=⟨_,rfl⟩
      have HD:=hid hD
      have HDL:=hid (show D.length≤1000000000100 by rw[hD];simp)
      rw[←hD]at HOW
      clear hD hpp y0 y1 y2 y3
      go_meet
      exact ⟨_,_,_,D,rfl,HOW,hid (by rw[HD.out];simp[meB]),HDL,HRW,HXW⟩
     go_wp2
     have HOW:=hid (own_less (own_lit2c W0 3 0 3 0 rfl rfl) HB0.out.size)
     have HBW:=hid (HB0.out.alloc HB0.out.size (Qc #[.int .u8 3,.int .u8 0] 5))
     have HRW:=hid (HR0.out.alloc (Qc #[.int .u8 3,.int .u8 0] 5))
     have HXW:=hid (HX0.out.alloc (Qc #[.int .u8 3,.int .u8 0] 5))
     generalize W0.alloc (Qc #[.int .u8 3,.int .u8 0] 5)=W1 at *
     generalize hpp:(some (⟨W0.heap.size,0,none⟩:Addr))=pp at *
     obtain ⟨D,hD⟩:∃D:List UInt8,D=[3,0]:=⟨_,rfl⟩
     have HD:=hid hD
     have HDL:=hid (show D.length≤1000000000100 by rw[hD];simp)
     rw[←hD]at HOW
     clear hD hpp y0 y1 y2 y3
     go_meet
     exact ⟨_,_,_,D,rfl,HOW,hid (by rw[HD.out];simp[meB]),HDL,HRW,HXW⟩
   case rest =>
    clear y0 y1 y2 y3
    obtain ⟨pO,mO,cO,D,rfl,HOW,HD,HDL,HRW,HXW⟩:=hcut
    have HBW:=hid (HRW.out.below (Ql _))
    have HNu:=hid (show D.length+(uI ni).length≤140737488355000 by have:=uI_len ni;have:=HDL.out;omega)
    have HDU:=hid (show (D++uI ni).length≤1000000001000 by have:=uI_len ni;have:=HDL.out;rw[QA];omega)
    have y4:=HXW.out.at (k:=4) (v:=V pi ni ci) rfl
    go_upto_region 22 with (first
     |(go_at_call 133;(with_reducible refine (RU_says ni _).mono ?_);rintro e w1 ⟨v,rfl,ho,hb⟩;obtain ⟨p1,m1,c1,rfl⟩:=own_slice ho;have HO1:=hid ho;have HA1:=hid (own_kept HOW.out hb);have HQ1:=hid (HRW.out.trans (RF.of hb));have HX1:=Qe HXW hb;clear ho hb)
     |(at_builtin;refine append_rowW rfl _ _ rfl w.heap.size _ _ _ _ _ w1 HA1.out HO1.out HNu.out HQ1.out.size (RF.refl _ _) rfl rfl ?_;intro p2 m2 c2 w2 ho3 hf3;have HO2:=hid ho3;have HQ2:=hid (HQ1.out.trans hf3);have HX2:=hid (HX1.out.rf hf3 (by decide));clear ho3 hf3))
    clear y4 HOW HBW HRW HXW HO1 HA1 HQ1 HX1 HNu
    have y4:=HX2.out.at (k:=4) (v:=V pi ni ci) rfl
    generalize hU:D++uI ni=U at *
    have HU:=hid hU
    clear hU
    go_wp2
    go_loopw [7,8] (fun vo vi wr=>∃(i:Nat) (p:Option Addr) (q c:Nat),i≤ni∧vi=I J i∧vo=V p q c∧Hid (wr.ownsRow w.heap.size 5 1 (V p q c) (U++flB i F).length (QY (U++flB i F)))∧Hid (RF w.heap.size w wr)∧Hid (CA w.heap.size #[I J r,I J m,I J t,V po no co,V pi ni ci] 62 wr)) (fun _ vi _=>ni-(intOf vi).toNat)
    case atStart=>exact ⟨0,_,_,_,Qz _,rfl,rfl,by simpa[flB]using HO2,HQ2,HX2⟩
    case round =>
     clear y4
     obtain ⟨i,p0,m0,k0,hi,rfl,rfl,HR,HQ,HX⟩:=hrel
     have y4:=HX.out.at (k:=4) (v:=V pi ni ci) rfl
     by_cases hlt:i<ni
     ·as_aux_lemma =>
      have HB:=hid (HQ.out.below (Ql _))
      obtain ⟨hpe,hg⟩:=HP.out (by omega)
      subst hpe
      clear y4
      have y4:=HX.out.at (k:=4) (v:=V (some ⟨ib,io,none⟩) ni ci) rfl
      have z0:w.cell? ⟨ib,io+i,none⟩=some (V (q i) (gf i).len (d i)):=by have:=HXX.out i hlt 0 _ rfl;simpa using this
      have x0:=(HB.out.cell (p:=⟨ib,io+i,none⟩) hg).trans z0
      have l0:(flB (i+1) F).length≤1000000000000:=Qk (flB_le F hlt) HLN.out
      have hfi:isFun (gf i)=true:=by
       have:=HFB.out
       simp only[Eq.comm (a:=true),Bool.and_eq_true,List.all_eq_true,List.mem_range]at this
       exact this.2 i hlt
      have hSN:flB (i+1) F=flB i F++uI (fstA (gf i)):=by rw[HF.out];rfl
      have hbi:=SA.below (HCC.out i hlt).1 HB.out
      generalize gf i=f at *
      generalize q i=qi at *
      generalize d i=di at *
      cases f with
      |nil=>cases hfi
      |cons op a b2 n2 h2 l2 ot body els rest =>
       cases rest with
       |cons op' a' b' n' h' l' ot' body' els' rest'=>cases hfi
       |nil =>
        obtain ⟨p',c',g',o',e1,e2,e3⟩:=hbi
        injection e1 with e1 e6 e5
        subst e1
        subst e5
        clear e6
        obtain rfl:=e2 (by simp[Fo.len])
        obtain ⟨-,⟨-,-,-,u0,u1,-⟩,-⟩:=e3
        replace x0:wr.cell? ⟨ib,io+i,none⟩=some (V (some ⟨g',o',none⟩) 1 _):=x0
        have HSN:=hid (show flB (i+1) F=flB i F++uI a from hSN)
        rw[HSN.out,QA]at l0
        have HN1:=hid (show (U++flB i F).length+(uI a).length≤140737488355000 by have:=HDU.out;rw[QA];omega)
        clear l0 hSN hfi z0 e2 hg hi
        go_wp2_with (first
         |(go_at_call 133;(with_reducible refine (RU_says a _).mono ?_);rintro e w1 ⟨v,rfl,ho,hb⟩;obtain ⟨p1,m1,c1,rfl⟩:=own_slice ho;have HO1:=hid ho;have HA1:=hid (own_kept HR.out hb);have HQ1:=hid (HQ.out.trans (RF.of hb));have HX1:=Qe HX hb;clear ho hb)
         |(at_builtin;refine append_rowW rfl _ _ rfl w.heap.size _ _ _ _ _ w1 HA1.out HO1.out HN1.out HQ1.out.size (RF.refl _ _) rfl rfl ?_;intro p3 m3 c3 w3 ho3 hf3;have HO3:=hid ho3;have HQ3:=hid (HQ1.out.trans hf3);have HX3:=hid (HX1.out.rf hf3 (by decide));clear ho3 hf3))
        go_roundw
        case rel =>
         refine ⟨i+1,p3,m3,c3,hlt,by go_num,rfl,?_,HQ3,HX3⟩
         rw[HSN.out,←QS]
         exact HO3
        case measure=>simp[intOf];omega
     ·have hie:ni=i:=by omega
      subst hie
      have HE:=hid (show U++flB ni F=meB true r m t c0++(uI ni++flB ni F) by rw[←HU.out,HD.out];simp[meB])
      clear hlt hi
      go_wp2
      go_ret
      refine ⟨_,rfl,?_,HQ.out.below (Ql _)⟩
      rw[←HE.out]
      exact HR.out
 |false =>
  go_upto_region 12 with fail
  obtain ⟨CB,hCB⟩:∃b,b=(decide (m=0)&&(decide (t=0)&&decide (r=112))):=⟨_,rfl⟩
  have HCB:=hid hCB
  clear hCB
  go_cut [56] (fun c wx=>c=G CB∧W0=wx)
  case first=>as_aux_lemma =>
   clear HM
   by_cases hm:m=0
   ·subst hm
    by_cases ht:t=0
    ·subst ht
     by_cases hr:r=112
     ·subst hr
      obtain rfl:CB=true:=by rw[HCB.out];simp
      go_wp2
      go_meet
      exact ⟨rfl,rfl⟩
     have hr1:(r==112)=false:=by simpa using hr
     have hr2:decide (r=112)=false:=by simpa using hr
     obtain rfl:CB=false:=by rw[HCB.out];simp[hr]
     clear hr
     go_wp2
     go_meet
     exact ⟨rfl,rfl⟩
    have ht1:(t==0)=false:=by simpa using ht
    have ht2:decide (t=0)=false:=by simpa using ht
    obtain rfl:CB=false:=by rw[HCB.out];simp[ht]
    clear ht
    go_wp2
    go_meet
    exact ⟨rfl,rfl⟩
   have hm1:(m==0)=false:=by simpa using hm
   have hm2:decide (m=0)=false:=by simpa using hm
   obtain rfl:CB=false:=by rw[HCB.out];simp[hm]
   clear hm
   go_wp2
   go_meet
   exact ⟨rfl,rfl⟩
  obtain ⟨rfl,rfl⟩:=hcut
  go_upto_if 56 with fail
  go_cut [7] (fun o wx=>∃(p:Option Addr) (z c:Nat) (D:List UInt8),o=V p z c∧Hid (wx.ownsRow w.heap.size 5 1 (V p z c) D.length (QY D))∧Hid (D=meB false r m t c0)∧Hid (D.length≤1000000000100)∧Hid (RF w.heap.size w wx)∧Hid (CA w.heap.size #[I J r,I J m,I J t,V po no co,V pi ni ci] 62 wx))
  case first=>as_aux_lemma =>
   cases CB with
   |true =>
    obtain ⟨h1,h2,h3⟩:m=0∧t=0∧r=112:=by have:=HCB.out;simpa using this
    subst h1
    subst h2
    subst h3
    have HNa:=hid (show ([4]:List UInt8).length+c0.length≤140737488355000 by have:=HC0.out;simp only[QC,QN];omega)
    have HT:=hid (own_less (own_litc W0 4 4 rfl) HB0.out.size)
    have HRT:=hid (HR0.out.alloc (Qc #[.int .u8 4] 5))
    have HXT:=hid (HX0.out.alloc (Qc #[.int .u8 4] 5))
    have t3:=HXT.out.at (k:=3) (v:=V po no co) rfl
    go_wp2_with (first
     |(go_at_call 27;(with_reducible refine (HE0.out _ (HRT.out.below (Ql _))).mono ?_);rintro e w1 ⟨v,rfl,ho,hb⟩;obtain ⟨p1,m1,c1,rfl⟩:=own_slice ho;have HO1:=hid ho;have HA1:=hid (own_kept HT.out hb);have HQ1:=hid (HRT.out.trans (RF.of hb));have HX1:=Qe HXT hb;clear ho hb)
     |(at_builtin;refine append_rowW rfl _ _ rfl w.heap.size _ _ _ _ _ w1 HA1.out HO1.out HNa.out HQ1.out.size (RF.refl _ _) rfl rfl ?_;intro pO mO cO W1 ho3 hf3;have HOW:=hid ho3;have HRW:=hid (HQ1.out.trans hf3);have HXW:=hid (HX1.out.rf hf3 (by decide));clear ho3 hf3))
    have HBW:=hid (HRW.out.below (Ql _))
    obtain ⟨D,hD⟩:∃D:List UInt8,D=[4]++c0:=⟨_,rfl⟩
    have HD:=hid hD
    have HDL:=hid (show D.length≤1000000000100 by have:=HC0.out;rw[hD];simp only[QA,QC,QN];omega)
    rw[←hD]at HOW
    clear hD y0 y1 y2 y3 t3 HT HRT HXT HO1 HA1 HQ1 HX1
    go_meet
    exact ⟨_,_,_,D,rfl,HOW,hid (by rw[HD.out];simp[meB]),HDL,HRW,HXW⟩
   |false =>
    rcases HM.out with rfl|rfl|rfl
    ·have HTR:=hid (show ¬(t=0∧r=112) by have:=HCB.out;simp at this;exact fun h=>this h.1 h.2)
     have q1:=uI_len t
     have q2:=HC0.out
     have HNa:=hid (show ([6]:List UInt8).length+(uI t).length≤140737488355000 by simp only[QC,QN];omega)
     have HNb:=hid (show ([6]++uI t).length+c0.length≤140737488355000 by simp only[QA,QC,QN];omega)
     have HNc:=hid (show ([6]++uI t++c0).length+([(byI r)]:List UInt8).length≤140737488355000 by simp only[QA,QC,QN];omega)
     have HT:=hid (own_less (own_litc W0 6 6 rfl) HB0.out.size)
     have HRT:=hid (HR0.out.alloc (Qc #[.int .u8 6] 5))
     have HXT:=hid (HX0.out.alloc (Qc #[.int .u8 6] 5))
     have t2:=HXT.out.at (k:=2) (v:=I J t) rfl
     clear q1 q2
     go_wp2_with (first
      |(go_at_call 133;(with_reducible refine (RU_says t _).mono ?_);rintro e w1 ⟨v,rfl,ho,hb⟩;obtain ⟨p1,m1,c1,rfl⟩:=own_slice ho;have HO1:=hid ho;have HA1:=hid (own_kept HT.out hb);have HQ1:=hid (HRT.out.trans (RF.of hb));have HX1:=Qe HXT hb;clear ho hb)
      |(at_builtin;refine append_rowW rfl _ _ rfl w.heap.size _ _ _ _ _ w1 HA1.out HO1.out HNa.out HQ1.out.size (RF.refl _ _) rfl rfl ?_;intro p2 m2 c2 w2 ho3 hf3;have HO2:=hid ho3;have HQ2:=hid (HQ1.out.trans hf3);have HX2:=hid (HX1.out.rf hf3 (by decide));have v3:=HX2.out.at (k:=3) (v:=V po no co) rfl;clear ho3 hf3 HA1 HO1)
      |(go_at_call 27;(with_reducible refine (HE0.out _ (HQ2.out.below (Ql _))).mono ?_);rintro e w3 ⟨v,rfl,ho,hb⟩;obtain ⟨p3,m3,c3,rfl⟩:=own_slice ho;have HO3:=hid ho;have HA3:=hid (own_kept HO2.out hb);have HQ3:=hid (HQ2.out.trans (RF.of hb));have HX3:=Qe HX2 hb;clear ho hb)
      |(at_builtin;refine append_rowW rfl _ _ rfl w.heap.size _ _ _ _ _ w3 HA3.out HO3.out HNb.out HQ3.out.size (RF.refl _ _) rfl rfl ?_;intro p4 m4 c4 w4 ho3 hf3;have HA4:=hid ho3;have HQ4:=hid (HQ3.out.trans hf3);have HX4:=hid (HX3.out.rf hf3 (by decide));clear ho3 hf3 HA3 HO3)
      |(at_builtin;refine append_rowW rfl _ _ rfl w.heap.size _ _ _ _ _ (w4.alloc (Qc #[.int .u8 (r%256)] 5)) (own_kept HA4.out ((QB _ _).alloc (Ql _) _)) (own_less (own_lit1 w4 r) HQ4.out.size) HNc.out (HQ4.out.alloc (Qc #[.int .u8 (r%256)] 5)).size (RF.refl _ _) rfl rfl ?_;intro pO mO cO W1 ho3 hf3;have HOW:=hid ho3;have HRW:=hid ((HQ4.out.alloc (Qc #[.int .u8 (r%256)] 5)).trans hf3);have HXW:=hid ((HX4.out.alloc (Qc #[.int .u8 (r%256)] 5)).rf hf3 (by decide));clear ho3 hf3))
     have HBW:=hid (HRW.out.below (Ql _))
     obtain ⟨D,hD⟩:∃D:List UInt8,D=[6]++uI t++c0++[(byI r)]:=⟨_,rfl⟩
     have HD:=hid hD
     have HDL:=hid (show D.length≤1000000000100 by have:=HC0.out;have:=uI_len t;rw[hD];simp only[QA,QC,QN];omega)
     rw[←hD]at HOW
     clear hD y0 y1 y2 y3 v3 t2 HT HRT HXT HQ1 HX1 HO2 HQ2 HX2 HQ3 HX3 HA4 HQ4 HX4
     go_meet
     exact ⟨_,_,_,D,rfl,HOW,hid (by rw[HD.out];unfold meB;rw[if_pos rfl,if_neg HTR.out];simp),HDL,HRW,HXW⟩
    ·go_wp2
     have HOW:=hid (own_less (own_lit2c W0 5 (r%256) 5 (byI r) rfl (byI_nat r)) HB0.out.size)
     have HBW:=hid (HB0.out.alloc HB0.out.size (Qc #[.int .u8 5,.int .u8 (r%256)] 5))
     have HRW:=hid (HR0.out.alloc (Qc #[.int .u8 5,.int .u8 (r%256)] 5))
     have HXW:=hid (HX0.out.alloc (Qc #[.int .u8 5,.int .u8 (r%256)] 5))
     generalize W0.alloc (Qc #[.int .u8 5,.int .u8 (r%256)] 5)=W1 at *
     generalize hpp:(some (⟨W0.heap.size,0,none⟩:Addr))=pp at *
     obtain ⟨D,hD⟩:∃D:List UInt8,D=[5,(byI r)]:=⟨_,rfl⟩
     have HD:=hid hD
     have HDL:=hid (show D.length≤1000000000100 by rw[hD];simp)
     rw[←hD]at HOW
     clear hD hpp y0 y1 y2 y3
     go_meet
     exact ⟨_,_,_,D,rfl,HOW,hid (by rw[HD.out];simp[meB]),HDL,HRW,HXW⟩
    go_wp2
    have HOW:=hid (own_less (own_lit2c W0 7 (r%256) 7 (byI r) rfl (byI_nat r)) HB0.out.size)
    have HBW:=hid (HB0.out.alloc HB0.out.size (Qc #[.int .u8 7,.int .u8 (r%256)] 5))
    have HRW:=hid (HR0.out.alloc (Qc #[.int .u8 7,.int .u8 (r%256)] 5))
    have HXW:=hid (HX0.out.alloc (Qc #[.int .u8 7,.int .u8 (r%256)] 5))
    generalize W0.alloc (Qc #[.int .u8 7,.int .u8 (r%256)] 5)=W1 at *
    generalize hpp:(some (⟨W0.heap.size,0,none⟩:Addr))=pp at *
    obtain ⟨D,hD⟩:∃D:List UInt8,D=[7,(byI r)]:=⟨_,rfl⟩
    have HD:=hid hD
    have HDL:=hid (show D.length≤1000000000100 by rw[hD];simp)
    rw[←hD]at HOW
    clear hD hpp y0 y1 y2 y3
    go_meet
    exact ⟨_,_,_,D,rfl,HOW,hid (by rw[HD.out];simp[meB]),HDL,HRW,HXW⟩
  clear y0 y1 y2 y3
  obtain ⟨pO,mO,cO,D,rfl,HOW,HD,HDL,HRW,HXW⟩:=hcut
  have HBW:=hid (HRW.out.below (Ql _))
  have HNu:=hid (show D.length+(uI ni).length≤140737488355000 by have:=uI_len ni;have:=HDL.out;omega)
  have HDU:=hid (show (D++uI ni).length≤1000000001000 by have:=uI_len ni;have:=HDL.out;rw[QA];omega)
  have y4:=HXW.out.at (k:=4) (v:=V pi ni ci) rfl
  go_upto_region 22 with (first
   |(go_at_call 133;(with_reducible refine (RU_says ni _).mono ?_);rintro e w1 ⟨v,rfl,ho,hb⟩;obtain ⟨p1,m1,c1,rfl⟩:=own_slice ho;have HO1:=hid ho;have HA1:=hid (own_kept HOW.out hb);have HQ1:=hid (HRW.out.trans (RF.of hb));have HX1:=Qe HXW hb;clear ho hb)
   |(at_builtin;refine append_rowW rfl _ _ rfl w.heap.size _ _ _ _ _ w1 HA1.out HO1.out HNu.out HQ1.out.size (RF.refl _ _) rfl rfl ?_;intro p2 m2 c2 w2 ho3 hf3;have HO2:=hid ho3;have HQ2:=hid (HQ1.out.trans hf3);have HX2:=hid (HX1.out.rf hf3 (by decide));clear ho3 hf3))
  clear y4 HOW HBW HRW HXW HO1 HA1 HQ1 HX1 HNu
  have y4:=HX2.out.at (k:=4) (v:=V pi ni ci) rfl
  generalize hU:D++uI ni=U at *
  have HU:=hid hU
  clear hU
  go_wp2
  go_loopw [7,8] (fun vo vi wr=>∃(i:Nat) (p:Option Addr) (q c:Nat),i≤ni∧vi=I J i∧vo=V p q c∧Hid (wr.ownsRow w.heap.size 5 1 (V p q c) (U++flB i F).length (QY (U++flB i F)))∧Hid (RF w.heap.size w wr)∧Hid (CA w.heap.size #[I J r,I J m,I J t,V po no co,V pi ni ci] 62 wr)) (fun _ vi _=>ni-(intOf vi).toNat)
  case atStart=>exact ⟨0,_,_,_,Qz _,rfl,rfl,by simpa[flB]using HO2,HQ2,HX2⟩
  clear y4
  obtain ⟨i,p0,m0,k0,hi,rfl,rfl,HR,HQ,HX⟩:=hrel
  have y4:=HX.out.at (k:=4) (v:=V pi ni ci) rfl
  by_cases hlt:i<ni
  ·as_aux_lemma =>
   have HB:=hid (HQ.out.below (Ql _))
   obtain ⟨hpe,hg⟩:=HP.out (by omega)
   subst hpe
   clear y4
   have y4:=HX.out.at (k:=4) (v:=V (some ⟨ib,io,none⟩) ni ci) rfl
   have z0:w.cell? ⟨ib,io+i,none⟩=some (V (q i) (gf i).len (d i)):=by have:=HXX.out i hlt 0 _ rfl;simpa using this
   have x0:=(HB.out.cell (p:=⟨ib,io+i,none⟩) hg).trans z0
   have l0:(flB (i+1) F).length≤1000000000000:=Qk (flB_le F hlt) HLN.out
   have HSN:=hid (show flB (i+1) F=flB i F++codL (gf i) by rw[HF.out];rfl)
   have KE:=fun W h=>hid (HEK.out i hlt W h)
   rw[HSN.out,QA]at l0
   have HN1:=hid (show (U++flB i F).length+(codL (gf i)).length≤140737488355000 by have:=HDU.out;rw[QA];omega)
   generalize codL (gf i)=XE at *
   generalize (gf i).len=ln at *
   generalize q i=qi at *
   generalize d i=di at *
   clear l0 z0 hg hi
   go_wp2_with (first
    |(go_at_call 27;(with_reducible refine (KE _ HB.out).out.mono ?_);rintro e w1 ⟨v,rfl,ho,hb⟩;obtain ⟨p1,m1,c1,rfl⟩:=own_slice ho;have HO1:=hid ho;have HA1:=hid (own_kept HR.out hb);have HQ1:=hid (HQ.out.trans (RF.of hb));have HX1:=Qe HX hb;clear ho hb)
    |(at_builtin;refine append_rowW rfl _ _ rfl w.heap.size _ _ _ _ _ w1 HA1.out HO1.out HN1.out HQ1.out.size (RF.refl _ _) rfl rfl ?_;intro p3 m3 c3 w3 ho3 hf3;have HO3:=hid ho3;have HQ3:=hid (HQ1.out.trans hf3);have HX3:=hid (HX1.out.rf hf3 (by decide));clear ho3 hf3))
   go_roundw
   case rel =>
    refine ⟨i+1,p3,m3,c3,hlt,by go_num,rfl,?_,HQ3,HX3⟩
    rw[HSN.out,←QS]
    exact HO3
   case measure=>simp[intOf];omega
  have hie:ni=i:=by omega
  subst hie
  have HE:=hid (show U++flB ni F=meB false r m t c0++(uI ni++flB ni F) by rw[←HU.out,HD.out];simp[meB])
  clear hlt hi
  go_wp2
  go_ret
  refine ⟨_,rfl,?_,HQ.out.below (Ql _)⟩
  rw[←HE.out]
  exact HR.out
theorem runs_head (y:Int) (t:List Int):∃n r,runsL (y::t)=(n,y)::r:=by
 cases h:runsL t with
 |nil=>exact ⟨1,[],by simp[runsL,h]⟩
 |cons p r =>
  obtain ⟨n,z⟩:=p
  by_cases e:y=z
  ·subst e
   exact ⟨n+1,r,by simp[runsL,h]⟩
  exact ⟨1,(n,z)::r,by simp[runsL,h,e]⟩
theorem runs_rep (x:Int) (rest:List Int) (hne:∀y,rest.head?=some y→y≠x):∀k,runsL (List.replicate (k+1) x++rest)=(k+1,x)::runsL rest
 |0=>by
  show runsL (x::rest)=_
  cases rest with
  |nil=>rfl
  |cons y t =>
   obtain ⟨n,r,h⟩:=runs_head y t
   have:=hne y rfl
   rw[runsL,h]
   simp[Ne.symm this]
 |k+1=>by
  have:=runs_rep x rest hne k
  show runsL (x::(List.replicate (k+1) x++rest))=_
  rw[runsL,this]
  simp
theorem drop_rep (l:List Int) (x:Int):∀(k i:Nat),(∀j,j<k→l[i+j]?=some x)→l.drop i=List.replicate k x++l.drop (i+k)
 |0,i,_=>by simp
 |k+1,i,h=>by
  have h1:=drop_rep l x k (i+1) (fun j hj=>by have:=h (j+1) (by omega);rw[show i+1+j=i+(j+1) by omega];exact this)
  have h0:=h 0 (by omega)
  rw[Nat.add_zero]at h0
  obtain ⟨hi,he⟩:=List.getElem?_eq_some_iff.1 h0
  rw[List.drop_eq_getElem_cons hi,he,h1,List.replicate_succ,show i+1+k=i+(k+1) by omega]
  rfl
theorem runs_step (l:List Int) (x:Int) (i k:Nat) (hk:k≠0) (h:∀j,j<k→l[i+j]?=some x) (hs:∀y,l[i+k]?=some y→y≠x):runsL (l.drop i)=(k,x)::runsL (l.drop (i+k)):=by
 obtain ⟨m,rfl⟩:∃m,k=m+1:=⟨k-1,by omega⟩
 rw[drop_rep l x (m+1) i h]
 exact runs_rep x _ (fun y hy=>hs y (by rw[←hy,List.head?_drop])) m
theorem below_drewR {B:Nat} {w w':World} (h:Below B w w'):Below B w w'.drew:=⟨h.os,h.tape,h.output,h.size,h.block⟩
theorem Rbody_says (ty:Int) (l:List Int) (pl pf:Option Addr) (cl nf cf:Nat) (c0:List UInt8) (w:World) (hl:LI w.heap.size w (V pl l.length cl) l) (hln:l.length≤60000)
  (hE0:∀W,Below w.heap.size w W→Calls QP 27 #[V pf nf cf] W (BO W c0)) (hc0:c0.length≤1000000000000) :
  Calls QP 134 #[.agg #[I J ty,V pl l.length cl,V pf nf cf]] w (BO w (szL (locL l++c0))):=by
 obtain ⟨p',c',e,hq,hcc⟩:=hl
 injection e with e1 e2 e3
 subst e1
 subst e3
 clear e2
 obtain ⟨n,hnl⟩:∃n,n=l.length:=⟨_,rfl⟩
 have HNL:=hid hnl
 have HP:=hid hcc
 rw[←hnl]at hq hln ⊢
 have HLN:=hid hln
 have HE0:=hid hE0
 have HC0:=hid hc0
 have n62:(n:Int)<9223372036854775807:=by omega
 have HX0:=hid (CA.new w #[I J ty,V pl n cl,V pf nf cf] 42)
 have HR0:=hid ((RF.refl w.heap.size w).alloc (Qc #[I J ty,V pl n cl,V pf nf cf] 42))
 obtain ⟨TL,hTL⟩:∃T,T=locL l:=⟨_,rfl⟩
 rw[←hTL]
 have HTL:=hid hTL
 clear hcc hnl hln hE0 hc0 hq hTL
 go_enter Tryz.func134,Tryz.ntmps134
 go_upto_region 1 with fail
 generalize (w.alloc (Qc #[I J ty,V pl n cl,V pf nf cf] 42))=W0 at *
 go_wp2
 go_loopw [3,4,5] (fun vo vn vi wr=>∃(i k:Nat) (bs:List UInt8) (p:Option Addr) (q c:Nat),i≤n∧k≤i∧vi=I J i∧vn=I J k∧vo=V p q c∧Hid (wr.ownsRow w.heap.size 5 1 (V p q c) bs.length (QY bs))∧Hid (bs.length≤11*i∧rbL (runsL l)=bs++rbL (runsL (l.drop i))∧(runsL l).length=k+(runsL (l.drop i)).length)∧Hid (RF w.heap.size w wr∧CA w.heap.size #[I J ty,V pl n cl,V pf nf cf] 42 wr)) (fun _ _ vi _=>n-(intOf vi).toNat)
 case atStart=>exact ⟨0,0,[],none,0,0,Qz _,Ql _,rfl,rfl,rfl,own_nil _ _,hid ⟨by simp,by simp,by simp⟩,hid ⟨HR0.out,HX0.out⟩⟩
 obtain ⟨i,k,bs,p0,m0,k0,hi,hki,rfl,rfl,rfl,HR,HS,HF⟩:=hrel
 have y1:=HF.out.2.at (k:=1) (v:=V pl n cl) rfl
 by_cases hlt:i<n
 ·as_aux_lemma =>
  have hll:i<l.length:=by rw[←HNL.out];exact hlt
  obtain ⟨x,hx⟩:∃x,l[i]?=some x:=⟨l[i],List.getElem?_eq_getElem hll⟩
  obtain ⟨kb,ko,hpk,hkb,hcell⟩:=HP.out (by intro e;rw[e]at hll;simp at hll)
  subst hpk
  have HCE:=hid hcell
  have HKB:=hid hkb
  have HXI:=hid hx
  have hi62:(i:Int)<60001:=by have:=HLN.out;omega
  clear hcell hx hll hkb y1
  have y1:=HF.out.2.at (k:=1) (v:=V (some ⟨kb,ko,none⟩) n cl) rfl
  obtain ⟨wo,hwo⟩:∃x,x=wr:=⟨_,rfl⟩
  subst hwo
  go_wp2
  go_loopw [6] (fun vr wr=>∃r:Nat,i+r≤n∧vr=I J r∧Hid (∀j,j<r→l[i+j]?=some x)∧Hid (Below wo.heap.size wo wr)) (fun vr _=>n-(intOf vr).toNat)
  case atStart=>exact ⟨0,by omega,rfl,hid (fun j hj=>absurd hj (Nat.not_lt_zero j)),QB _ _⟩
  clear y1
  obtain ⟨r,hir,rfl,HJ,HB⟩:=hrel
  have hS:Below wo.heap.size wo wr.drew∧CA w.heap.size #[I J ty,V (some ⟨kb,ko,none⟩) n cl,V pf nf cf] 42 wr.drew:=⟨below_drewR HB.out,HF.out.2.below (below_drewR HB.out) HF.out.2.lt⟩
  have e1:IntKind.i64.wrap ((i:Int)+(r:Int))=(i:Int)+(r:Int):=wrap_i8 _ (by omega) (by have:=HLN.out;omega)
  have e2:wrap64 ((i:Int)+(r:Int))=(i:Int)+(r:Int):=by unfold wrap64;have:=HLN.out;omega
  have HE1:=hid e1
  have HE2:=hid e2
  clear e1 e2
  have hcl:∀j y,l[j]?=some y→∀W,Below wo.heap.size wo W→W.cell? ⟨kb,ko+j,none⟩=some (I J y):=fun j y hj W hW=>by
   have h1:=HCE.out j y hj
   rw[←h1]
   exact (QW (hW.block kb (Nat.lt_of_lt_of_le HKB.out HF.out.1.size))).trans (QW (HF.out.1.block kb HKB.out (.inl HKB.out)))
  have HCL:=hid hcl
  clear hcl
  go_upto_region 6 with fail
  by_cases hc:i+r<n
  ·have hll:i+r<l.length:=by rw[←HNL.out];exact hc
   obtain ⟨z,hz⟩:∃z,l[i+r]?=some z:=⟨l[i+r],List.getElem?_eq_getElem hll⟩
   have HZ:=hid hz
   have HD:=hid (show (i:Int)+(r:Int)<(n:Int) by omega)
   have HG:=hid (show (0:Int)≤(i:Int)+(r:Int)∧(i:Int)+(r:Int)<(n:Int) by omega)
   clear hz hll
   by_cases hzx:z=x
   ·subst hzx
    have HZX:=hid (show (z==z)=true by simp)
    have HQ:=fun W (hSw:Below wo.heap.size wo W∧CA w.heap.size #[I J ty,V (some ⟨kb,ko,none⟩) n cl,V pf nf cf] 42 W)=>And.intro (hSw.2.at (k:=1) (v:=V (some ⟨kb,ko,none⟩) n cl) rfl) (And.intro (HCL.out _ _ HZ.out W hSw.1) (HCL.out _ _ HXI.out W hSw.1))
    have e1:=HE1.out
    have e2:=HE2.out
    have hd:=HD.out
    have hg:=HG.out
    have hz:=HZX.out
    refine wp_region_held_drew (S:=fun W=>Below wo.heap.size wo W∧CA w.heap.size #[I J ty,V (some ⟨kb,ko,none⟩) n cl,V pf nf cf] 42 W) (by kernel_rfl) hS (fun _=>?_)
    generalize wr.drew=W at *
    refine zt 0 (I J i) rfl ?_ ?_
    ·(intro W hSw;obtain ⟨x1,g0,g1⟩:=HQ W hSw;go_simp;try (exact wrap_b8 _);try (with_reducible rfl))
    try simp only[Qu,sl2,sl0,sl1]
    refine zt 1 (I J r) rfl ?_ ?_
    ·(intro W hSw;obtain ⟨x1,g0,g1⟩:=HQ W hSw;go_simp;try (exact wrap_b8 _);try (with_reducible rfl))
    try simp only[Qu,sl2,sl0,sl1]
    refine zt 2 (I J ((i+r:Nat):Int)) rfl ?_ ?_
    ·(intro W hSw;obtain ⟨x1,g0,g1⟩:=HQ W hSw;go_simp;try (exact wrap_b8 _);try (with_reducible rfl))
    try simp only[Qu,sl2,sl0,sl1]
    refine zt 3 (Qp (some ⟨w.heap.size,1,none⟩)) rfl ?_ ?_
    ·(intro W hSw;obtain ⟨x1,g0,g1⟩:=HQ W hSw;go_simp;try (exact wrap_b8 _);try (with_reducible rfl))
    try simp only[Qu,sl2,sl0,sl1]
    refine zt 4 (V (some ⟨kb,ko,none⟩) n cl) rfl ?_ ?_
    ·(intro W hSw;obtain ⟨x1,g0,g1⟩:=HQ W hSw;go_simp;try (exact wrap_b8 _);try (with_reducible rfl))
    try simp only[Qu,sl2,sl0,sl1]
    refine zt 5 (I J n) rfl ?_ ?_
    ·(intro W hSw;obtain ⟨x1,g0,g1⟩:=HQ W hSw;go_simp;try (exact wrap_b8 _);try (with_reducible rfl))
    try simp only[Qu,sl2,sl0,sl1]
    refine zt 6 (G true) rfl ?_ ?_
    ·(intro W hSw;obtain ⟨x1,g0,g1⟩:=HQ W hSw;go_simp;try (exact wrap_b8 _);try (with_reducible rfl))
    try simp only[Qu,sl2,sl0,sl1]
    refine zt 7 (G true) rfl ?_ ?_
    ·(intro W hSw;obtain ⟨x1,g0,g1⟩:=HQ W hSw;go_simp;try (exact wrap_b8 _);try (with_reducible rfl))
    try simp only[Qu,sl2,sl0,sl1]
    refine zt 8 (Qp (some ⟨w.heap.size,1,none⟩)) rfl ?_ ?_
    ·(intro W hSw;obtain ⟨x1,g0,g1⟩:=HQ W hSw;go_simp;try (exact wrap_b8 _);try (with_reducible rfl))
    try simp only[Qu,sl2,sl0,sl1]
    refine zt 9 (V (some ⟨kb,ko,none⟩) n cl) rfl ?_ ?_
    ·(intro W hSw;obtain ⟨x1,g0,g1⟩:=HQ W hSw;go_simp;try (exact wrap_b8 _);try (with_reducible rfl))
    try simp only[Qu,sl2,sl0,sl1]
    refine zt 10 (I J i) rfl ?_ ?_
    ·(intro W hSw;obtain ⟨x1,g0,g1⟩:=HQ W hSw;go_simp;try (exact wrap_b8 _);try (with_reducible rfl))
    try simp only[Qu,sl2,sl0,sl1]
    refine zt 11 (I J r) rfl ?_ ?_
    ·(intro W hSw;obtain ⟨x1,g0,g1⟩:=HQ W hSw;go_simp;try (exact wrap_b8 _);try (with_reducible rfl))
    try simp only[Qu,sl2,sl0,sl1]
    refine zt 12 (I J ((i+r:Nat):Int)) rfl ?_ ?_
    ·(intro W hSw;obtain ⟨x1,g0,g1⟩:=HQ W hSw;go_simp;try (exact wrap_b8 _);try (with_reducible rfl))
    try simp only[Qu,sl2,sl0,sl1]
    refine zt 13 (Qp (some ⟨kb,ko+(i+r),none⟩)) rfl ?_ ?_
    ·(intro W hSw;obtain ⟨x1,g0,g1⟩:=HQ W hSw;go_simp;try (exact wrap_b8 _);try (with_reducible rfl))
    try simp only[Qu,sl2,sl0,sl1]
    refine zt 14 (I J z) rfl ?_ ?_
    ·(intro W hSw;obtain ⟨x1,g0,g1⟩:=HQ W hSw;go_simp;try (exact wrap_b8 _);try (with_reducible rfl))
    try simp only[Qu,sl2,sl0,sl1]
    refine zt 15 (Qp (some ⟨w.heap.size,1,none⟩)) rfl ?_ ?_
    ·(intro W hSw;obtain ⟨x1,g0,g1⟩:=HQ W hSw;go_simp;try (exact wrap_b8 _);try (with_reducible rfl))
    try simp only[Qu,sl2,sl0,sl1]
    refine zt 16 (V (some ⟨kb,ko,none⟩) n cl) rfl ?_ ?_
    ·(intro W hSw;obtain ⟨x1,g0,g1⟩:=HQ W hSw;go_simp;try (exact wrap_b8 _);try (with_reducible rfl))
    try simp only[Qu,sl2,sl0,sl1]
    refine zt 17 (I J i) rfl ?_ ?_
    ·(intro W hSw;obtain ⟨x1,g0,g1⟩:=HQ W hSw;go_simp;try (exact wrap_b8 _);try (with_reducible rfl))
    try simp only[Qu,sl2,sl0,sl1]
    refine zt 18 (Qp (some ⟨kb,ko+i,none⟩)) rfl ?_ ?_
    ·(intro W hSw;obtain ⟨x1,g0,g1⟩:=HQ W hSw;go_simp;try (exact wrap_b8 _);try (with_reducible rfl))
    try simp only[Qu,sl2,sl0,sl1]
    refine zt 19 (I J z) rfl ?_ ?_
    ·(intro W hSw;obtain ⟨x1,g0,g1⟩:=HQ W hSw;go_simp;try (exact wrap_b8 _);try (with_reducible rfl))
    try simp only[Qu,sl2,sl0,sl1]
    refine zt 20 (G true) rfl ?_ ?_
    ·(intro W hSw;obtain ⟨x1,g0,g1⟩:=HQ W hSw;go_simp;try (exact wrap_b8 _);try (with_reducible rfl))
    try simp only[Qu,sl2,sl0,sl1]
    refine zt 21 (G true) rfl ?_ ?_
    ·(intro W hSw;obtain ⟨x1,g0,g1⟩:=HQ W hSw;go_simp;try (exact wrap_b8 _);try (with_reducible rfl))
    try simp only[Qu,sl2,sl0,sl1]
    clear HQ e1 e2 hd hg hz
    refine wpAnyH_done (by kernel_rfl) ?_ _
    have HBN:=hid hS.1
    clear hS
    go_wp2
    go_roundw
    case rel=>exact ⟨r+1,by omega,by go_num,hid (fun j hj=>by rcases Nat.lt_succ_iff_lt_or_eq.1 hj with h|h;exact HJ.out j h;subst h;exact HZ.out),HBN⟩
    case measure=>simp[intOf];omega
   have HZX:=hid (show (z==x)=false by simpa using hzx)
   have HNE:=hid hzx
   clear hzx
   have HQ:=fun W (hSw:Below wo.heap.size wo W∧CA w.heap.size #[I J ty,V (some ⟨kb,ko,none⟩) n cl,V pf nf cf] 42 W)=>And.intro (hSw.2.at (k:=1) (v:=V (some ⟨kb,ko,none⟩) n cl) rfl) (And.intro (HCL.out _ _ HZ.out W hSw.1) (HCL.out _ _ HXI.out W hSw.1))
   have e1:=HE1.out
   have e2:=HE2.out
   have hd:=HD.out
   have hg:=HG.out
   have hz:=HZX.out
   refine wp_region_held_drew (S:=fun W=>Below wo.heap.size wo W∧CA w.heap.size #[I J ty,V (some ⟨kb,ko,none⟩) n cl,V pf nf cf] 42 W) (by kernel_rfl) hS (fun _=>?_)
   generalize wr.drew=W at *
   refine zt 0 (I J i) rfl ?_ ?_
   ·(intro W hSw;obtain ⟨x1,g0,g1⟩:=HQ W hSw;go_simp;try (exact wrap_b8 _);try (with_reducible rfl))
   try simp only[Qu,sl2,sl0,sl1]
   refine zt 1 (I J r) rfl ?_ ?_
   ·(intro W hSw;obtain ⟨x1,g0,g1⟩:=HQ W hSw;go_simp;try (exact wrap_b8 _);try (with_reducible rfl))
   try simp only[Qu,sl2,sl0,sl1]
   refine zt 2 (I J ((i+r:Nat):Int)) rfl ?_ ?_
   ·(intro W hSw;obtain ⟨x1,g0,g1⟩:=HQ W hSw;go_simp;try (exact wrap_b8 _);try (with_reducible rfl))
   try simp only[Qu,sl2,sl0,sl1]
   refine zt 3 (Qp (some ⟨w.heap.size,1,none⟩)) rfl ?_ ?_
   ·(intro W hSw;obtain ⟨x1,g0,g1⟩:=HQ W hSw;go_simp;try (exact wrap_b8 _);try (with_reducible rfl))
   try simp only[Qu,sl2,sl0,sl1]
   refine zt 4 (V (some ⟨kb,ko,none⟩) n cl) rfl ?_ ?_
   ·(intro W hSw;obtain ⟨x1,g0,g1⟩:=HQ W hSw;go_simp;try (exact wrap_b8 _);try (with_reducible rfl))
   try simp only[Qu,sl2,sl0,sl1]
   refine zt 5 (I J n) rfl ?_ ?_
   ·(intro W hSw;obtain ⟨x1,g0,g1⟩:=HQ W hSw;go_simp;try (exact wrap_b8 _);try (with_reducible rfl))
   try simp only[Qu,sl2,sl0,sl1]
   refine zt 6 (G true) rfl ?_ ?_
   ·(intro W hSw;obtain ⟨x1,g0,g1⟩:=HQ W hSw;go_simp;try (exact wrap_b8 _);try (with_reducible rfl))
   try simp only[Qu,sl2,sl0,sl1]
   refine zt 7 (G true) rfl ?_ ?_
   ·(intro W hSw;obtain ⟨x1,g0,g1⟩:=HQ W hSw;go_simp;try (exact wrap_b8 _);try (with_reducible rfl))
   try simp only[Qu,sl2,sl0,sl1]
   refine zt 8 (Qp (some ⟨w.heap.size,1,none⟩)) rfl ?_ ?_
   ·(intro W hSw;obtain ⟨x1,g0,g1⟩:=HQ W hSw;go_simp;try (exact wrap_b8 _);try (with_reducible rfl))
   try simp only[Qu,sl2,sl0,sl1]
   refine zt 9 (V (some ⟨kb,ko,none⟩) n cl) rfl ?_ ?_
   ·(intro W hSw;obtain ⟨x1,g0,g1⟩:=HQ W hSw;go_simp;try (exact wrap_b8 _);try (with_reducible rfl))
   try simp only[Qu,sl2,sl0,sl1]
   refine zt 10 (I J i) rfl ?_ ?_
   ·(intro W hSw;obtain ⟨x1,g0,g1⟩:=HQ W hSw;go_simp;try (exact wrap_b8 _);try (with_reducible rfl))
   try simp only[Qu,sl2,sl0,sl1]
   refine zt 11 (I J r) rfl ?_ ?_
   ·(intro W hSw;obtain ⟨x1,g0,g1⟩:=HQ W hSw;go_simp;try (exact wrap_b8 _);try (with_reducible rfl))
   try simp only[Qu,sl2,sl0,sl1]
   refine zt 12 (I J ((i+r:Nat):Int)) rfl ?_ ?_
   ·(intro W hSw;obtain ⟨x1,g0,g1⟩:=HQ W hSw;go_simp;try (exact wrap_b8 _);try (with_reducible rfl))
   try simp only[Qu,sl2,sl0,sl1]
   refine zt 13 (Qp (some ⟨kb,ko+(i+r),none⟩)) rfl ?_ ?_
   ·(intro W hSw;obtain ⟨x1,g0,g1⟩:=HQ W hSw;go_simp;try (exact wrap_b8 _);try (with_reducible rfl))
   try simp only[Qu,sl2,sl0,sl1]
   refine zt 14 (I J z) rfl ?_ ?_
   ·(intro W hSw;obtain ⟨x1,g0,g1⟩:=HQ W hSw;go_simp;try (exact wrap_b8 _);try (with_reducible rfl))
   try simp only[Qu,sl2,sl0,sl1]
   refine zt 15 (Qp (some ⟨w.heap.size,1,none⟩)) rfl ?_ ?_
   ·(intro W hSw;obtain ⟨x1,g0,g1⟩:=HQ W hSw;go_simp;try (exact wrap_b8 _);try (with_reducible rfl))
   try simp only[Qu,sl2,sl0,sl1]
   refine zt 16 (V (some ⟨kb,ko,none⟩) n cl) rfl ?_ ?_
   ·(intro W hSw;obtain ⟨x1,g0,g1⟩:=HQ W hSw;go_simp;try (exact wrap_b8 _);try (with_reducible rfl))
   try simp only[Qu,sl2,sl0,sl1]
   refine zt 17 (I J i) rfl ?_ ?_
   ·(intro W hSw;obtain ⟨x1,g0,g1⟩:=HQ W hSw;go_simp;try (exact wrap_b8 _);try (with_reducible rfl))
   try simp only[Qu,sl2,sl0,sl1]
   refine zt 18 (Qp (some ⟨kb,ko+i,none⟩)) rfl ?_ ?_
   ·(intro W hSw;obtain ⟨x1,g0,g1⟩:=HQ W hSw;go_simp;try (exact wrap_b8 _);try (with_reducible rfl))
   try simp only[Qu,sl2,sl0,sl1]
   refine zt 19 (I J x) rfl ?_ ?_
   ·(intro W hSw;obtain ⟨x1,g0,g1⟩:=HQ W hSw;go_simp;try (exact wrap_b8 _);try (with_reducible rfl))
   try simp only[Qu,sl2,sl0,sl1]
   refine zt 20 (G false) rfl ?_ ?_
   ·(intro W hSw;obtain ⟨x1,g0,g1⟩:=HQ W hSw;go_simp;try (exact wrap_b8 _);try (with_reducible rfl))
   try simp only[Qu,sl2,sl0,sl1]
   refine zt 21 (G false) rfl ?_ ?_
   ·(intro W hSw;obtain ⟨x1,g0,g1⟩:=HQ W hSw;go_simp;try (exact wrap_b8 _);try (with_reducible rfl))
   try simp only[Qu,sl2,sl0,sl1]
   clear HQ e1 e2 hd hg hz
   refine wpAnyH_done (by kernel_rfl) ?_ _
   have HBN:=hid hS.1
   clear hS
   have HST:=hid (show ∀y,l[i+r]?=some y→y≠x from fun y hy=>by rw[HZ.out]at hy;injection hy with hy;rw[←hy];exact HNE.out)
   have hr0:r≠0:=fun e=>by subst e;have h:=HZ.out;rw[Nat.add_zero,HXI.out]at h;injection h with h;exact HNE.out h.symm
   have HRS:=hid (runs_step l x i r hr0 HJ.out HST.out)
   have HR1:=hid (own_kept HR.out HBN.out)
   have HF1:=hid (And.intro (HF.out.1.trans (RF.of HBN.out)) (HF.out.2.below HBN.out HF.out.2.lt))
   have HS1:=hid (show (bs++uI r++[byI x]).length≤11*(i+r)∧rbL (runsL l)=bs++uI r++[byI x]++rbL (runsL (l.drop (i+r)))∧(runsL l).length=k+1+(runsL (l.drop (i+r))).length by
    obtain ⟨h1,h2,h3⟩:=HS.out
    rw[HRS.out]at h2 h3
    have:=uI_len r
    refine ⟨by simp only[QA,QC,QN];omega,by rw[h2];simp[rbL,runB],by rw[h3,QC];omega⟩)
   have HN1:=hid (show bs.length+(uI r).length≤140737488355000 by have:=HS.out.1;have:=uI_len r;have:=HLN.out;omega)
   have HN2:=hid (show (bs++uI r).length+([byI x]:List UInt8).length≤140737488355000 by have:=HS.out.1;have:=uI_len r;have:=HLN.out;simp only[QA,QC,QN];omega)
   have e1:=HE1.out
   have e2:=HE2.out
   have e3:wrap64 ((k:Int)+1)=((k+1:Nat):Int):=by unfold wrap64;have:=HLN.out;omega
   have hir2:i+r≤n:=hir
   have g1:=HCL.out _ _ HXI.out
   have HGA:=hid g1
   clear g1
   go_wp2_with (first
    |(go_at_call 133;(with_reducible refine (RU_says r _).mono ?_);rintro e w1 ⟨v,rfl,ho,hb⟩;obtain ⟨p1,m1,c1,rfl⟩:=own_slice ho;have HO1:=hid ho;have HA1:=hid (own_kept HR1.out hb);have HB1:=Qd HBN hb;have HQ1:=hid (And.intro (HF1.out.1.trans (RF.of hb)) (HF1.out.2.below hb HF1.out.2.lt));clear ho hb)
    |(at_builtin;refine append_rowW rfl _ _ rfl w.heap.size _ _ _ _ _ w1 HA1.out HO1.out HN1.out HQ1.out.1.size (RF.refl _ _) rfl rfl ?_;intro p2 m2 c2 w2 ho3 hf3;have HA2:=hid ho3;have HQ2:=hid (And.intro (HQ1.out.1.trans hf3) (HQ1.out.2.rf hf3 (by decide)));have y1:=HQ2.out.2.at (k:=1) (v:=V (some ⟨kb,ko,none⟩) n cl) rfl;have g1:=(QW (HQ2.out.1.block kb HKB.out (.inl HKB.out)):w2.cell? ⟨kb,ko+i,none⟩=w.cell? ⟨kb,ko+i,none⟩).trans (HCE.out i x HXI.out);clear ho3 hf3 HA1 HO1)
    |(at_builtin;refine append_rowW rfl _ _ rfl w.heap.size _ _ _ _ _ (w2.alloc (Qc #[.int .u8 (x%256)] 5)) (own_kept HA2.out ((QB _ _).alloc (Ql _) _)) (own_less (own_lit1 w2 x) HQ2.out.1.size) HN2.out (HQ2.out.1.alloc (Qc #[.int .u8 (x%256)] 5)).size (RF.refl _ _) rfl rfl ?_;intro p3 m3 c3 w3 ho3 hf3;have HA3:=hid ho3;have HQ3:=hid (And.intro ((HQ2.out.1.alloc (Qc #[.int .u8 (x%256)] 5)).trans hf3) ((HQ2.out.2.alloc (Qc #[.int .u8 (x%256)] 5)).rf hf3 (by decide)));clear ho3 hf3))
   go_roundw
   case rel=>exact ⟨i+r,k+1,bs++uI r++[byI x],p3,m3,c3,hir2,by omega,by go_num,by go_num,rfl,HA3,HS1,HQ3⟩
   case measure=>simp[intOf];omega
  have HD:=hid (show ¬(i:Int)+(r:Int)<(n:Int) by omega)
  have hirn:i+r=n:=by omega
  have HIR:=hid hirn
  clear hirn hc
  have HQ:=fun W (hSw:Below wo.heap.size wo W∧CA w.heap.size #[I J ty,V (some ⟨kb,ko,none⟩) n cl,V pf nf cf] 42 W)=>hSw.2.at (k:=1) (v:=V (some ⟨kb,ko,none⟩) n cl) rfl
  have e1:=HE1.out
  have e2:=HE2.out
  have hd:=HD.out
  refine wp_region_held_drew (S:=fun W=>Below wo.heap.size wo W∧CA w.heap.size #[I J ty,V (some ⟨kb,ko,none⟩) n cl,V pf nf cf] 42 W) (by kernel_rfl) hS (fun _=>?_)
  generalize wr.drew=W at *
  refine zt 0 (I J i) rfl ?_ ?_
  ·(intro W hSw;have x1:=HQ W hSw;go_simp;try (exact wrap_b8 _);try (with_reducible rfl))
  try simp only[Qu,sl2,sl0,sl1]
  refine zt 1 (I J r) rfl ?_ ?_
  ·(intro W hSw;have x1:=HQ W hSw;go_simp;try (exact wrap_b8 _);try (with_reducible rfl))
  try simp only[Qu,sl2,sl0,sl1]
  refine zt 2 (I J ((i+r:Nat):Int)) rfl ?_ ?_
  ·(intro W hSw;have x1:=HQ W hSw;go_simp;try (exact wrap_b8 _);try (with_reducible rfl))
  try simp only[Qu,sl2,sl0,sl1]
  refine zt 3 (Qp (some ⟨w.heap.size,1,none⟩)) rfl ?_ ?_
  ·(intro W hSw;have x1:=HQ W hSw;go_simp;try (exact wrap_b8 _);try (with_reducible rfl))
  try simp only[Qu,sl2,sl0,sl1]
  refine zt 4 (V (some ⟨kb,ko,none⟩) n cl) rfl ?_ ?_
  ·(intro W hSw;have x1:=HQ W hSw;go_simp;try (exact wrap_b8 _);try (with_reducible rfl))
  try simp only[Qu,sl2,sl0,sl1]
  refine zt 5 (I J n) rfl ?_ ?_
  ·(intro W hSw;have x1:=HQ W hSw;go_simp;try (exact wrap_b8 _);try (with_reducible rfl))
  try simp only[Qu,sl2,sl0,sl1]
  refine zt 6 (G false) rfl ?_ ?_
  ·(intro W hSw;have x1:=HQ W hSw;go_simp;try (exact wrap_b8 _);try (with_reducible rfl))
  try simp only[Qu,sl2,sl0,sl1]
  refine zt 7 (G false) rfl ?_ ?_
  ·(intro W hSw;have x1:=HQ W hSw;go_simp;try (exact wrap_b8 _);try (with_reducible rfl))
  try simp only[Qu,sl2,sl0,sl1]
  refine zu 8 rfl ?_
  try simp only[Qu,sl2,sl0,sl1]
  refine zu 9 rfl ?_
  try simp only[Qu,sl2,sl0,sl1]
  refine zu 10 rfl ?_
  try simp only[Qu,sl2,sl0,sl1]
  refine zu 11 rfl ?_
  try simp only[Qu,sl2,sl0,sl1]
  refine zu 12 rfl ?_
  try simp only[Qu,sl2,sl0,sl1]
  refine zu 13 rfl ?_
  try simp only[Qu,sl2,sl0,sl1]
  refine zu 14 rfl ?_
  try simp only[Qu,sl2,sl0,sl1]
  refine zu 15 rfl ?_
  try simp only[Qu,sl2,sl0,sl1]
  refine zu 16 rfl ?_
  try simp only[Qu,sl2,sl0,sl1]
  refine zu 17 rfl ?_
  try simp only[Qu,sl2,sl0,sl1]
  refine zu 18 rfl ?_
  try simp only[Qu,sl2,sl0,sl1]
  refine zu 19 rfl ?_
  try simp only[Qu,sl2,sl0,sl1]
  refine zu 20 rfl ?_
  try simp only[Qu,sl2,sl0,sl1]
  refine zt 21 (G false) rfl ?_ ?_
  ·(intro W hSw;have x1:=HQ W hSw;go_simp;try (exact wrap_b8 _);try (with_reducible rfl))
  try simp only[Qu,sl2,sl0,sl1]
  clear HQ e1 e2 hd
  refine wpAnyH_done (by kernel_rfl) ?_ _
  have HBN:=hid hS.1
  clear hS
  have HST:=hid (show ∀y,l[i+r]?=some y→y≠x from fun y hy=>by rw[HIR.out,HNL.out,List.getElem?_eq_none (Ql _)]at hy;cases hy)
  have hr0:r≠0:=fun e=>by have:=HIR.out;omega
  have HRS:=hid (runs_step l x i r hr0 HJ.out HST.out)
  have HR1:=hid (own_kept HR.out HBN.out)
  have HF1:=hid (And.intro (HF.out.1.trans (RF.of HBN.out)) (HF.out.2.below HBN.out HF.out.2.lt))
  have HS1:=hid (show (bs++uI r++[byI x]).length≤11*(i+r)∧rbL (runsL l)=bs++uI r++[byI x]++rbL (runsL (l.drop (i+r)))∧(runsL l).length=k+1+(runsL (l.drop (i+r))).length by
   obtain ⟨h1,h2,h3⟩:=HS.out
   rw[HRS.out]at h2 h3
   have:=uI_len r
   refine ⟨by simp only[QA,QC,QN];omega,by rw[h2];simp[rbL,runB],by rw[h3,QC];omega⟩)
  have HN1:=hid (show bs.length+(uI r).length≤140737488355000 by have:=HS.out.1;have:=uI_len r;have:=HLN.out;omega)
  have HN2:=hid (show (bs++uI r).length+([byI x]:List UInt8).length≤140737488355000 by have:=HS.out.1;have:=uI_len r;have:=HLN.out;simp only[QA,QC,QN];omega)
  have e1:=HE1.out
  have e2:=HE2.out
  have e3:wrap64 ((k:Int)+1)=((k+1:Nat):Int):=by unfold wrap64;have:=HLN.out;omega
  have hir2:i+r≤n:=hir
  have g1:=HCL.out _ _ HXI.out
  have HGA:=hid g1
  clear g1
  go_wp2_with (first
   |(go_at_call 133;(with_reducible refine (RU_says r _).mono ?_);rintro e w1 ⟨v,rfl,ho,hb⟩;obtain ⟨p1,m1,c1,rfl⟩:=own_slice ho;have HO1:=hid ho;have HA1:=hid (own_kept HR1.out hb);have HB1:=Qd HBN hb;have HQ1:=hid (And.intro (HF1.out.1.trans (RF.of hb)) (HF1.out.2.below hb HF1.out.2.lt));clear ho hb)
   |(at_builtin;refine append_rowW rfl _ _ rfl w.heap.size _ _ _ _ _ w1 HA1.out HO1.out HN1.out HQ1.out.1.size (RF.refl _ _) rfl rfl ?_;intro p2 m2 c2 w2 ho3 hf3;have HA2:=hid ho3;have HQ2:=hid (And.intro (HQ1.out.1.trans hf3) (HQ1.out.2.rf hf3 (by decide)));have y1:=HQ2.out.2.at (k:=1) (v:=V (some ⟨kb,ko,none⟩) n cl) rfl;have g1:=(QW (HQ2.out.1.block kb HKB.out (.inl HKB.out)):w2.cell? ⟨kb,ko+i,none⟩=w.cell? ⟨kb,ko+i,none⟩).trans (HCE.out i x HXI.out);clear ho3 hf3 HA1 HO1)
   |(at_builtin;refine append_rowW rfl _ _ rfl w.heap.size _ _ _ _ _ (w2.alloc (Qc #[.int .u8 (x%256)] 5)) (own_kept HA2.out ((QB _ _).alloc (Ql _) _)) (own_less (own_lit1 w2 x) HQ2.out.1.size) HN2.out (HQ2.out.1.alloc (Qc #[.int .u8 (x%256)] 5)).size (RF.refl _ _) rfl rfl ?_;intro p3 m3 c3 w3 ho3 hf3;have HA3:=hid ho3;have HQ3:=hid (And.intro ((HQ2.out.1.alloc (Qc #[.int .u8 (x%256)] 5)).trans hf3) ((HQ2.out.2.alloc (Qc #[.int .u8 (x%256)] 5)).rf hf3 (by decide)));clear ho3 hf3))
  go_roundw
  case rel=>exact ⟨i+r,k+1,bs++uI r++[byI x],p3,m3,c3,hir2,by omega,by go_num,by go_num,rfl,HA3,HS1,HQ3⟩
  case measure=>simp[intOf];omega
 have hie:n=i:=by omega
 subst hie
 have HL0:=hid (show l.drop n=[] by rw[HNL.out];exact List.drop_length)
 have HTE:=hid (show TL=uI k++bs by rw[HTL.out];unfold locL;rw[HS.out.2.1,HS.out.2.2,HL0.out];simp[runsL,rbL])
 have HNl:=hid (show bs.length+20≤140737488355000 by have:=HS.out.1;have:=HLN.out;omega)
 have HNe:=hid (show (uI k++bs).length+c0.length≤140737488355000 by have:=HS.out.1;have:=HLN.out;have:=HC0.out;have:=uI_len k;simp only[QA];omega)
 have HNz:=hid (show (uI (uI k++bs++c0).length).length+(uI k++bs++c0).length≤140737488355000 by have:=HS.out.1;have:=HLN.out;have:=HC0.out;have:=uI_len k;have:=uI_len (uI k++bs++c0).length;simp only[QA]at *;omega)
 have HZ:Hid (w.heap.size≤w.heap.size):=Ql _
 have HSZ:=HZ
 go_upto_region 12 with fail
 have hS:RF w.heap.size w wr.drew∧CA w.heap.size #[I J ty,V pl n cl,V pf nf cf] 42 wr.drew:=⟨HF.out.1.drew,HF.out.2⟩
 have HOO:Hid (wr.drew.ownsRow w.heap.size 5 1 (V p0 m0 k0) bs.length (QY bs)):=HR
 clear HR HF y1 HX0 HR0
 refine wp_region_held_drew (S:=fun W=>RF w.heap.size w W∧CA w.heap.size #[I J ty,V pl n cl,V pf nf cf] 42 W) (by kernel_rfl) hS (fun _=>?_)
 generalize wr.drew=W at *
 refine zt 0 (I J k) rfl ?_ ?_
 ·(intro W hSw;have x0:=hSw.2.at (k:=0) (v:=I J ty) rfl;have x1:=hSw.2.at (k:=1) (v:=V pl n cl) rfl;have x2:=hSw.2.at (k:=2) (v:=V pf nf cf) rfl;go_simp;try (exact wrap_b8 _);try (with_reducible rfl))
 try simp only[Qu,sl2,sl0,sl1]
 refine zt 1 (V p0 m0 k0) rfl ?_ ?_
 ·(intro W hSw;have x0:=hSw.2.at (k:=0) (v:=I J ty) rfl;have x1:=hSw.2.at (k:=1) (v:=V pl n cl) rfl;have x2:=hSw.2.at (k:=2) (v:=V pf nf cf) rfl;go_simp;try (exact wrap_b8 _);try (with_reducible rfl))
 try simp only[Qu,sl2,sl0,sl1]
 refine zt 3 (Qp (some ⟨w.heap.size,2,none⟩)) rfl ?_ ?_
 ·(intro W hSw;have x0:=hSw.2.at (k:=0) (v:=I J ty) rfl;have x1:=hSw.2.at (k:=1) (v:=V pl n cl) rfl;have x2:=hSw.2.at (k:=2) (v:=V pf nf cf) rfl;go_simp;try (exact wrap_b8 _);try (with_reducible rfl))
 try simp only[Qu,sl2,sl0,sl1]
 refine zt 4 (V pf nf cf) rfl ?_ ?_
 ·(intro W hSw;have x0:=hSw.2.at (k:=0) (v:=I J ty) rfl;have x1:=hSw.2.at (k:=1) (v:=V pl n cl) rfl;have x2:=hSw.2.at (k:=2) (v:=V pf nf cf) rfl;go_simp;try (exact wrap_b8 _);try (with_reducible rfl))
 try simp only[Qu,sl2,sl0,sl1]
 refine zr 2 rfl (fun K hK=>?_)
 go_simp
 go_at_call 135
 (with_reducible refine (listed_says k _ bs w.heap.size W HOO.out HNl.out).mono ?_)
 rintro e W1 ⟨v,rfl,ho,hb⟩
 obtain ⟨pL,mL,cL,rfl⟩:=own_slice ho
 have HOL:=hid (own_less ho (Qk HSZ.out hS.1.size))
 (try replace HOO:=hid (own_kept HOO.out hb))
 (try replace HOE:=hid (own_kept HOE.out hb))
 (try replace HOZ:=hid (own_kept HOZ.out hb))
 replace hS:=And.intro (hS.1.trans (RF.of hb)) (hS.2.below hb hS.2.lt)
 clear ho hb
 refine hK.out _ _ hS (fun _=>?_)
 clear hK K
 try simp only[Qu,sl2,sl0,sl1]
 refine zr 5 rfl (fun K hK=>?_)
 go_simp
 go_at_call 27
 (with_reducible refine (HE0.out W1 (hS.1.below (Ql _))).mono ?_)
 rintro e W2 ⟨v,rfl,ho,hb⟩
 obtain ⟨pE,mE,cE,rfl⟩:=own_slice ho
 have HOE:=hid (own_less ho (Qk HSZ.out hS.1.size))
 (try replace HOO:=hid (own_kept HOO.out hb))
 (try replace HOL:=hid (own_kept HOL.out hb))
 (try replace HOZ:=hid (own_kept HOZ.out hb))
 replace hS:=And.intro (hS.1.trans (RF.of hb)) (hS.2.below hb hS.2.lt)
 clear ho hb
 refine hK.out _ _ hS (fun _=>?_)
 clear hK K
 try simp only[Qu,sl2,sl0,sl1]
 refine zr 6 rfl (fun K hK=>?_)
 refine append_rowS rfl (.tmp 57) (.tmp 60) rfl w.heap.size _ _ _ _ _ w HOL.out HOE.out HNe.out (Ql _) hS.1 rfl rfl ?_
 intro pZ mZ cZ W3 ho3 hr
 replace hS:=And.intro (hS.1.trans hr) (hS.2.rf hr (by decide))
 have HOZ:=hid ho3
 clear ho3 hr HOL HOE
 refine hK.out _ _ hS (fun _=>?_)
 clear hK K
 try simp only[Qu,sl2,sl0,sl1]
 refine zt 7 (V pZ mZ cZ) rfl ?_ ?_
 ·(intro W hSw;have x0:=hSw.2.at (k:=0) (v:=I J ty) rfl;have x1:=hSw.2.at (k:=1) (v:=V pl n cl) rfl;have x2:=hSw.2.at (k:=2) (v:=V pf nf cf) rfl;go_simp;try (exact wrap_b8 _);try (with_reducible rfl))
 try simp only[Qu,sl2,sl0,sl1]
 refine wpAnyH_done (by kernel_rfl) ?_ _
 have HFZ:=hid hS.1
 clear hS
 obtain ⟨Y,hY⟩:∃Y,Y=uI k++bs++c0:=⟨_,rfl⟩
 rw[←hY]at HOZ HNz
 obtain ⟨pq,cq,eq⟩:=own_sliceN HOZ.out
 injection eq with eq1 eq2 eq3
 subst eq1 eq2 eq3
 have HEF:=hid (show szL (TL++c0)=uI Y.length++Y by rw[HTE.out,hY];rfl)
 clear hY
 generalize hWz:W3=wz at *
 clear hWz
 go_wp2_with (first
  |(go_at_call 133;(with_reducible refine (RU_says Y.length _).mono ?_);rintro e w1 ⟨v,rfl,ho,hb⟩;obtain ⟨p1,m1,c1,rfl⟩:=own_slice ho;have HO1:=hid ho;have HA1:=hid (own_kept HOZ.out hb);have HQ1:=hid (RF.of (B:=wz.heap.size) hb);clear ho hb)
  |(at_builtin;refine append_rowW rfl _ _ rfl wz.heap.size _ _ _ _ _ w1 HO1.out HA1.out HNz.out HQ1.out.size (RF.refl _ _) rfl rfl ?_;intro p3 m3 c3 w3 ho3 hf3;have HA3:=hid ho3;have HQ3:=hid (HQ1.out.trans hf3);clear ho3 hf3))
 go_ret
 refine ⟨_,rfl,?_,(HFZ.out.below (Ql _)).trans ((HQ3.out.below (Ql _)).mono HFZ.out.size)⟩
 rw[HEF.out]
 exact own_less HA3.out HFZ.out.size
end Go.Proofs.YtjgeedgphcjhoaaGreat
