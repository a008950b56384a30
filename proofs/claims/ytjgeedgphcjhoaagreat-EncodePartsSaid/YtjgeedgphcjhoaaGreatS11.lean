/-
  RMay, RSeg: merged, what the law does not reach left out (each text says what it holds where it lies in wip). No condition.
-/
import Derived.Test.YtjgeedgphcjhoaaGreatS01
import Derived.Deep.DeepCutAuto
import Derived.Test.YtjgeedgphcjhoaaGreatS08
set_option linter.unusedSimpArgs false
set_option linter.unusedVariables false
set_option maxRecDepth 100000
set_option maxHeartbeats 64000000
namespace Go.Proofs.YtjgeedgphcjhoaaGreat
open Go.RowKit
open Value renaming int → I,slice → V,bool → G,string → Qs
open IntKind renaming i64 → J
open Ending renaming returned → Qr
open Obj renaming cells → Qc
open _root_.Go.Proofs.Tryz renaming prog → QP
open Nat renaming le_refl → Ql,zero_le → Qz
open Below renaming refl → QB
open List renaming range → QR
theorem range_all_snoc (P:Nat→Bool) (i:Nat):(QR (i+1)).all P=((QR i).all P&&P i):=by
 rw[List.range_succ,List.all_append]
 simp
theorem RMay_says (tp imp fp tbp mp gp xp ep dp:Option Addr) (tn tc imn imc fn fc tbn tbc mn mc gn gc xn xc en ec dn dc:Nat) (st:Int) (cnt sb:Bool) (tblk toff:Nat) (tp0:Nat→Option Addr) (tn0 tc0:Nat→Nat) (tp1:Nat→Option Addr) (tn1 tc1:Nat→Nat) (tA:Nat→Bool) (tB:Nat→Bool) (imblk imoff:Nat) (imz0:Nat→ByteArray) (imz1:Nat→ByteArray) (imt2:Nat→Int) (imt3:Nat→Int) (imt4:Nat→Int) (imt5:Nat→Int) (imt6:Nat→Int) (imu7:Nat→Bool) (imt8:Nat→Int) (imt9:Nat→Int) (imu10:Nat→Bool) (imt11:Nat→Int) (imu12:Nat→Bool) (imA:Nat→Bool) (fblk foff:Nat) (ft0:Nat→Int) (fp1:Nat→Option Addr) (fn1 fc1:Nat→Nat) (fp2:Nat→Option Addr) (fn2 fc2:Nat→Nat) (fA:Nat→Bool) (fB:Nat→Bool) (fC:Nat→Bool) (fD:Nat→Bool) (tbblk tboff:Nat) (tbt0:Nat→Int) (tbt1:Nat→Int) (tbt2:Nat→Int) (tbu3:Nat→Bool) (tbA:Nat→Bool) (mblk moff:Nat) (mt0:Nat→Int) (mt1:Nat→Int) (mu2:Nat→Bool) (mA:Nat→Bool) (gblk goff:Nat) (gt0:Nat→Int) (gu1:Nat→Bool) (gp2:Nat→Option Addr) (gn2 gc2:Nat→Nat) (gA:Nat→Bool) (gB:Nat→Bool) (xblk xoff:Nat) (xz0:Nat→ByteArray) (xt1:Nat→Int) (xt2:Nat→Int) (xA:Nat→Bool) (xB:Nat→Bool) (w:World)
  (htl:tn<9223372036854775807) (htg:tn≠0→tp=some ⟨tblk,toff,none⟩∧tblk<w.heap.size)
  (htx:∀i,i<tn→w.cell? ⟨tblk,toff+i*2,none⟩=some (V (tp0 i) (tn0 i) (tc0 i))∧w.cell? ⟨tblk,toff+i*2+1,none⟩=some (V (tp1 i) (tn1 i) (tc1 i)))
  (htA:∀i,i<tn→∀W,Below w.heap.size w W→Calls QP 50 #[V (tp0 i) (tn0 i) (tc0 i)] W fun e w'=>e=Qr (G (tA i))∧Below W.heap.size W w')
  (htB:∀i,i<tn→∀W,Below w.heap.size w W→Calls QP 50 #[V (tp1 i) (tn1 i) (tc1 i)] W fun e w'=>e=Qr (G (tB i))∧Below W.heap.size W w')
  (himl:imn<9223372036854775807) (himg:imn≠0→imp=some ⟨imblk,imoff,none⟩∧imblk<w.heap.size)
  (himx:∀i,i<imn→w.cell? ⟨imblk,imoff+i*13,none⟩=some (Qs (imz0 i))∧w.cell? ⟨imblk,imoff+i*13+1,none⟩=some (Qs (imz1 i))∧w.cell? ⟨imblk,imoff+i*13+2,none⟩=some (I J (imt2 i))∧w.cell? ⟨imblk,imoff+i*13+3,none⟩=some (I J (imt3 i))∧w.cell? ⟨imblk,imoff+i*13+4,none⟩=some (I J (imt4 i))∧w.cell? ⟨imblk,imoff+i*13+5,none⟩=some (I J (imt5 i))∧w.cell? ⟨imblk,imoff+i*13+6,none⟩=some (I J (imt6 i))∧w.cell? ⟨imblk,imoff+i*13+7,none⟩=some (G (imu7 i))∧w.cell? ⟨imblk,imoff+i*13+8,none⟩=some (I J (imt8 i))∧w.cell? ⟨imblk,imoff+i*13+9,none⟩=some (I J (imt9 i))∧w.cell? ⟨imblk,imoff+i*13+10,none⟩=some (G (imu10 i))∧w.cell? ⟨imblk,imoff+i*13+11,none⟩=some (I J (imt11 i))∧w.cell? ⟨imblk,imoff+i*13+12,none⟩=some (G (imu12 i)))
  (himA:∀i,i<imn→∀W,Below w.heap.size w W→Calls QP 51 #[.agg #[Qs (imz0 i),Qs (imz1 i),I J (imt2 i),I J (imt3 i),I J (imt4 i),I J (imt5 i),I J (imt6 i),G (imu7 i),I J (imt8 i),I J (imt9 i),G (imu10 i),I J (imt11 i),G (imu12 i)]] W fun e w'=>e=Qr (G (imA i))∧Below W.heap.size W w')
  (hfl:fn<9223372036854775807) (hfg:fn≠0→fp=some ⟨fblk,foff,none⟩∧fblk<w.heap.size)
  (hfx:∀i,i<fn→w.cell? ⟨fblk,foff+i*3,none⟩=some (I J (ft0 i))∧w.cell? ⟨fblk,foff+i*3+1,none⟩=some (V (fp1 i) (fn1 i) (fc1 i))∧w.cell? ⟨fblk,foff+i*3+2,none⟩=some (V (fp2 i) (fn2 i) (fc2 i)))
  (hfA:∀i,i<fn→∀W,Below w.heap.size w W→Calls QP 52 #[I J (ft0 i)] W fun e w'=>e=Qr (G (fA i))∧Below W.heap.size W w')
  (hfB:∀i,i<fn→∀W,Below w.heap.size w W→Calls QP 50 #[V (fp1 i) (fn1 i) (fc1 i)] W fun e w'=>e=Qr (G (fB i))∧Below W.heap.size W w')
  (hfC:∀i,i<fn→∀W,Below w.heap.size w W→Calls QP 26 #[V (fp2 i) (fn2 i) (fc2 i)] W fun e w'=>e=Qr (G (fC i))∧Below W.heap.size W w')
  (hfD:∀i,i<fn→∀W,Below w.heap.size w W→Calls QP 53 #[V (fp2 i) (fn2 i) (fc2 i)] W fun e w'=>e=Qr (G (fD i))∧Below W.heap.size W w')
  (htbl:tbn<9223372036854775807) (htbg:tbn≠0→tbp=some ⟨tbblk,tboff,none⟩∧tbblk<w.heap.size)
  (htbx:∀i,i<tbn→w.cell? ⟨tbblk,tboff+i*4,none⟩=some (I J (tbt0 i))∧w.cell? ⟨tbblk,tboff+i*4+1,none⟩=some (I J (tbt1 i))∧w.cell? ⟨tbblk,tboff+i*4+2,none⟩=some (I J (tbt2 i))∧w.cell? ⟨tbblk,tboff+i*4+3,none⟩=some (G (tbu3 i)))
  (htbA:∀i,i<tbn→∀W,Below w.heap.size w W→Calls QP 54 #[.agg #[I J (tbt0 i),I J (tbt1 i),I J (tbt2 i),G (tbu3 i)]] W fun e w'=>e=Qr (G (tbA i))∧Below W.heap.size W w')
  (hml:mn<9223372036854775807) (hmg:mn≠0→mp=some ⟨mblk,moff,none⟩∧mblk<w.heap.size)
  (hmx:∀i,i<mn→w.cell? ⟨mblk,moff+i*3,none⟩=some (I J (mt0 i))∧w.cell? ⟨mblk,moff+i*3+1,none⟩=some (I J (mt1 i))∧w.cell? ⟨mblk,moff+i*3+2,none⟩=some (G (mu2 i)))
  (hmA:∀i,i<mn→∀W,Below w.heap.size w W→Calls QP 55 #[.agg #[I J (mt0 i),I J (mt1 i),G (mu2 i)]] W fun e w'=>e=Qr (G (mA i))∧Below W.heap.size W w')
  (hgl:gn<9223372036854775807) (hgg:gn≠0→gp=some ⟨gblk,goff,none⟩∧gblk<w.heap.size)
  (hgx:∀i,i<gn→w.cell? ⟨gblk,goff+i*3,none⟩=some (I J (gt0 i))∧w.cell? ⟨gblk,goff+i*3+1,none⟩=some (G (gu1 i))∧w.cell? ⟨gblk,goff+i*3+2,none⟩=some (V (gp2 i) (gn2 i) (gc2 i)))
  (hgA:∀i,i<gn→∀W,Below w.heap.size w W→Calls QP 56 #[I J (gt0 i)] W fun e w'=>e=Qr (G (gA i))∧Below W.heap.size W w')
  (hgB:∀i,i<gn→∀W,Below w.heap.size w W→Calls QP 26 #[V (gp2 i) (gn2 i) (gc2 i)] W fun e w'=>e=Qr (G (gB i))∧Below W.heap.size W w')
  (hxl:xn<9223372036854775807) (hxg:xn≠0→xp=some ⟨xblk,xoff,none⟩∧xblk<w.heap.size)
  (hxx:∀i,i<xn→w.cell? ⟨xblk,xoff+i*3,none⟩=some (Qs (xz0 i))∧w.cell? ⟨xblk,xoff+i*3+1,none⟩=some (I J (xt1 i))∧w.cell? ⟨xblk,xoff+i*3+2,none⟩=some (I J (xt2 i)))
  (hxA:∀i,i<xn→∀W,Below w.heap.size w W→Calls QP 57 #[Qs (xz0 i),Qs ⟨#[]⟩] W fun e w'=>e=Qr (G (xA i))∧Below W.heap.size W w')
  (hxB:∀i,i<xn→∀W,Below w.heap.size w W→Calls QP 52 #[I J (xt2 i)] W fun e w'=>e=Qr (G (xB i))∧Below W.heap.size W w')
  (hsg:∀W,Below w.heap.size w W→Calls QP 58 #[.agg #[V tp tn tc,V imp imn imc,V fp fn fc,V tbp tbn tbc,V mp mn mc,V gp gn gc,V xp xn xc,I J st,V ep en ec,V dp dn dc,G cnt]] W fun e w'=>e=Qr (G sb)∧Below W.heap.size W w') :
  Calls QP 16 #[.agg #[V tp tn tc,V imp imn imc,V fp fn fc,V tbp tbn tbc,V mp mn mc,V gp gn gc,V xp xn xc,I J st,V ep en ec,V dp dn dc,G cnt]] w fun e w'=>e=Qr (G (((((((((decide (0≤st)&&decide (st≤4294967296))&&(QR tn).all (fun i=>tA i&&tB i))&&(QR imn).all (fun i=>imA i))&&(QR fn).all (fun i=>fA i&&fB i&&fC i&&decide ((fn1 i:Int)≤50000)&&(cnt||!fD i)))&&(QR tbn).all (fun i=>tbA i))&&(QR mn).all (fun i=>mA i))&&(QR gn).all (fun i=>gA i&&gB i))&&(QR xn).all (fun i=>xA i&&xB i&&decide (0≤xt1 i)&&decide (xt1 i≤3)))&&sb))∧Below w.heap.size w w':=by
 have HtG:=hid htg
 have HtX:=hid htx
 have nt62:(tn:Int)<9223372036854775807:=by omega
 have HtA:=hid htA
 have HtB:=hid htB
 have HimG:=hid himg
 have HimX:=hid himx
 have nim62:(imn:Int)<9223372036854775807:=by omega
 have HimA:=hid himA
 have HfG:=hid hfg
 have HfX:=hid hfx
 have nf62:(fn:Int)<9223372036854775807:=by omega
 have HfA:=hid hfA
 have HfB:=hid hfB
 have HfC:=hid hfC
 have HfD:=hid hfD
 have HtbG:=hid htbg
 have HtbX:=hid htbx
 have ntb62:(tbn:Int)<9223372036854775807:=by omega
 have HtbA:=hid htbA
 have HmG:=hid hmg
 have HmX:=hid hmx
 have nm62:(mn:Int)<9223372036854775807:=by omega
 have HmA:=hid hmA
 have HgG:=hid hgg
 have HgX:=hid hgx
 have ng62:(gn:Int)<9223372036854775807:=by omega
 have HgA:=hid hgA
 have HgB:=hid hgB
 have HxG:=hid hxg
 have HxX:=hid hxx
 have nx62:(xn:Int)<9223372036854775807:=by omega
 have HxA:=hid hxA
 have HxB:=hid hxB
 have HSG:=fun W h=>hid (hsg W h)
 obtain ⟨b0,hb0⟩:∃b,b=(decide (0≤st)&&decide (st≤4294967296)):=⟨_,rfl⟩
 rw[←hb0]
 obtain ⟨Qt,hQt⟩:∃Q:Nat→Bool,Q=(fun i=>tA i&&tB i):=⟨_,rfl⟩
 rw[←hQt]
 have HQt:=hid hQt
 obtain ⟨Qim,hQim⟩:∃Q:Nat→Bool,Q=(fun i=>imA i):=⟨_,rfl⟩
 rw[←hQim]
 have HQim:=hid hQim
 obtain ⟨Qf,hQf⟩:∃Q:Nat→Bool,Q=(fun i=>fA i&&fB i&&fC i&&decide ((fn1 i:Int)≤50000)&&(cnt||!fD i)):=⟨_,rfl⟩
 rw[←hQf]
 have HQf:=hid hQf
 obtain ⟨Qtb,hQtb⟩:∃Q:Nat→Bool,Q=(fun i=>tbA i):=⟨_,rfl⟩
 rw[←hQtb]
 have HQtb:=hid hQtb
 obtain ⟨Qm,hQm⟩:∃Q:Nat→Bool,Q=(fun i=>mA i):=⟨_,rfl⟩
 rw[←hQm]
 have HQm:=hid hQm
 obtain ⟨Qg,hQg⟩:∃Q:Nat→Bool,Q=(fun i=>gA i&&gB i):=⟨_,rfl⟩
 rw[←hQg]
 have HQg:=hid hQg
 obtain ⟨Qx,hQx⟩:∃Q:Nat→Bool,Q=(fun i=>xA i&&xB i&&decide (0≤xt1 i)&&decide (xt1 i≤3)):=⟨_,rfl⟩
 rw[←hQx]
 have HQx:=hid hQx
 obtain ⟨R,hR⟩:∃R,R=((((((((b0&&(QR tn).all Qt)&&(QR imn).all Qim)&&(QR fn).all Qf)&&(QR tbn).all Qtb)&&(QR mn).all Qm)&&(QR gn).all Qg)&&(QR xn).all Qx)&&sb):=⟨_,rfl⟩
 rw[←hR]
 have HR:=hid hR
 have HX0:=hid (CA.new w #[V tp tn tc,V imp imn imc,V fp fn fc,V tbp tbn tbc,V mp mn mc,V gp gn gc,V xp xn xc,I J st,V ep en ec,V dp dn dc,G cnt] 32)
 have HB0:=hid ((QB w.heap.size w).alloc (Ql _) (Qc #[V tp tn tc,V imp imn imc,V fp fn fc,V tbp tbn tbc,V mp mn mc,V gp gn gc,V xp xn xc,I J st,V ep en ec,V dp dn dc,G cnt] 32))
 have y7:=HX0.out.at (k:=7) (v:=I J st) rfl
 clear htg htx htl htA htB himg himx himl himA hfg hfx hfl hfA hfB hfC hfD htbg htbx htbl htbA hmg hmx hml hmA hgg hgx hgl hgA hgB hxg hxx hxl hxA hxB hsg hQt hQim hQf hQtb hQm hQg hQx hR
 go_enter Tryz.func16,Tryz.ntmps16
 go_upto_region 1 with fail
 go_cut [3] (fun s wx=>s=G b0∧wx=w.alloc (Qc #[V tp tn tc,V imp imn imc,V fp fn fc,V tbp tbn tbc,V mp mn mc,V gp gn gc,V xp xn xc,I J st,V ep en ec,V dp dn dc,G cnt] 32))
 case first =>
  by_cases c0:0≤st
  ·by_cases c1:st≤4294967296
   ·have e0:b0=true:=by rw[hb0,decide_eq_true c0,decide_eq_true c1];rfl
    subst e0
    clear hb0
    go_wp2
    go_meet
    exact ⟨rfl,rfl⟩
   have e0:b0=false:=by rw[hb0,decide_eq_false c1,Bool.and_false]
   subst e0
   clear hb0
   go_wp2
   go_meet
   exact ⟨rfl,rfl⟩
  have e0:b0=false:=by rw[hb0,decide_eq_false c0,Bool.false_and]
  subst e0
  clear hb0
  go_wp2
  go_meet
  exact ⟨rfl,rfl⟩
 obtain ⟨rfl,rfl⟩:=hcut
 clear hb0 y7
 generalize w.alloc (Qc #[V tp tn tc,V imp imn imc,V fp fn fc,V tbp tbn tbc,V mp mn mc,V gp gn gc,V xp xn xc,I J st,V ep en ec,V dp dn dc,G cnt] 32)=W0 at *
 have HK0:Hid (b0=b0):=rfl
 have y0:=HX0.out.at (k:=0) (v:=V tp tn tc) rfl
 go_wp2
 go_loopw [3,4] (fun vo vi wr=>∃(i:Nat) (ok:Bool),i≤tn∧vi=I J i∧vo=G ok∧Hid (ok=(b0&&(QR i).all Qt))∧Hid (Below w.heap.size w wr)∧Hid (CA w.heap.size #[V tp tn tc,V imp imn imc,V fp fn fc,V tbp tbn tbc,V mp mn mc,V gp gn gc,V xp xn xc,I J st,V ep en ec,V dp dn dc,G cnt] 32 wr)) (fun _ vi _=>tn-(intOf vi).toNat)
 case atStart=>exact ⟨0,b0,Qz _,rfl,rfl,by simp[Hid],HB0,HX0⟩
 clear y0
 obtain ⟨i,ok,hi,rfl,rfl,HK,HB,HX⟩:=hrel
 have y0:=HX.out.at (k:=0) (v:=V tp tn tc) rfl
 by_cases hlt:i<tn
 ·as_aux_lemma =>
   obtain ⟨z0,z1⟩:=HtX.out i hlt
   obtain ⟨hpe,hg⟩:=HtG.out (by omega)
   subst hpe
   have x0:=(HB.out.cell (p:=⟨tblk,toff+i*2,none⟩) hg).trans z0
   have x1:=(HB.out.cell (p:=⟨tblk,toff+i*2+1,none⟩) hg).trans z1
   have Z0:=hid z0
   have Z1:=hid z1
   have HGL:=hid hg
   clear z0 z1 hg
   have KKA:=fun W h=>hid (HtA.out i hlt W h)
   have KKB:=fun W h=>hid (HtB.out i hlt W h)
   have HSN:=hid (show (QR (i+1)).all Qt=((QR i).all Qt&&(tA i&&tB i)) by rw[range_all_snoc];rw[HQt.out])
   generalize tA i=bA at *
   generalize tB i=bB at *
   generalize tp0 i=q0 at *
   generalize tn0 i=m0 at *
   generalize tc0 i=d0 at *
   generalize tp1 i=q1 at *
   generalize tn1 i=m1 at *
   generalize tc1 i=d1 at *
   rcases (show (ok=false)∨(ok=true∧bA=false)∨(ok=true∧bA=true∧bB=false)∨(ok=true∧bA=true∧bB=true) by cases ok<;>cases bA<;>cases bB<;>simp) with rfl|⟨rfl,rfl⟩|⟨rfl,rfl,rfl⟩|⟨rfl,rfl,rfl⟩
   all_goals
    go_wp2_with (first
     |(go_at_call 50;(with_reducible refine (KKA _ HB.out).out.mono ?_);rintro e w1 ⟨rfl,hb⟩;have HBA:=Qd HB hb;have HXA:=Qe HX hb;have y0:=HXA.out.at (k:=0) (v:=V (some ⟨tblk,toff,none⟩) tn tc) rfl;have x0:=(HBA.out.cell (p:=⟨tblk,toff+i*2,none⟩) HGL.out).trans Z0.out;have x1:=(HBA.out.cell (p:=⟨tblk,toff+i*2+1,none⟩) HGL.out).trans Z1.out;clear hb)
     |(go_at_call 50;(with_reducible refine (KKB _ HBA.out).out.mono ?_);rintro e w2 ⟨rfl,hb⟩;have HBB:=Qd HBA hb;have HXB:=Qe HXA hb;have y0:=HXB.out.at (k:=0) (v:=V (some ⟨tblk,toff,none⟩) tn tc) rfl;have x0:=(HBB.out.cell (p:=⟨tblk,toff+i*2,none⟩) HGL.out).trans Z0.out;have x1:=(HBB.out.cell (p:=⟨tblk,toff+i*2+1,none⟩) HGL.out).trans Z1.out;clear hb))
    go_roundw
    case rel=>exact ⟨i+1,_,hlt,by go_num,rfl,hid (by rw[HSN.out,←Bool.and_assoc,←HK.out];rfl),HBB,HXB⟩
    case measure=>simp[intOf];omega
 have hie:tn=i:=by omega
 subst hie
 have HB1:=HB
 have HX1:=HX
 obtain ⟨ok0,hok0⟩:∃b,b=ok:=⟨_,rfl⟩
 have HK1:=hid (show ok0=(b0&&(QR tn).all Qt) by rw[hok0];exact HK.out)
 subst hok0
 clear HB HX HK hlt hi
 have y1:=HX1.out.at (k:=1) (v:=V imp imn imc) rfl
 go_wp2
 go_loopw [3,7] (fun vo vi wr=>∃(i:Nat) (ok:Bool),i≤imn∧vi=I J i∧vo=G ok∧Hid (ok=(ok0&&(QR i).all Qim))∧Hid (Below w.heap.size w wr)∧Hid (CA w.heap.size #[V tp tn tc,V imp imn imc,V fp fn fc,V tbp tbn tbc,V mp mn mc,V gp gn gc,V xp xn xc,I J st,V ep en ec,V dp dn dc,G cnt] 32 wr)) (fun _ vi _=>imn-(intOf vi).toNat)
 case atStart=>exact ⟨0,ok0,Qz _,rfl,rfl,by simp[Hid],HB1,HX1⟩
 clear y1
 obtain ⟨i,ok,hi,rfl,rfl,HK,HB,HX⟩:=hrel
 have y1:=HX.out.at (k:=1) (v:=V imp imn imc) rfl
 by_cases hlt:i<imn
 ·as_aux_lemma =>
   obtain ⟨z0,z1,z2,z3,z4,z5,z6,z7,z8,z9,z10,z11,z12⟩:=HimX.out i hlt
   obtain ⟨hpe,hg⟩:=HimG.out (by omega)
   subst hpe
   have x0:=(HB.out.cell (p:=⟨imblk,imoff+i*13,none⟩) hg).trans z0
   have x1:=(HB.out.cell (p:=⟨imblk,imoff+i*13+1,none⟩) hg).trans z1
   have x2:=(HB.out.cell (p:=⟨imblk,imoff+i*13+2,none⟩) hg).trans z2
   have x3:=(HB.out.cell (p:=⟨imblk,imoff+i*13+3,none⟩) hg).trans z3
   have x4:=(HB.out.cell (p:=⟨imblk,imoff+i*13+4,none⟩) hg).trans z4
   have x5:=(HB.out.cell (p:=⟨imblk,imoff+i*13+5,none⟩) hg).trans z5
   have x6:=(HB.out.cell (p:=⟨imblk,imoff+i*13+6,none⟩) hg).trans z6
   have x7:=(HB.out.cell (p:=⟨imblk,imoff+i*13+7,none⟩) hg).trans z7
   have x8:=(HB.out.cell (p:=⟨imblk,imoff+i*13+8,none⟩) hg).trans z8
   have x9:=(HB.out.cell (p:=⟨imblk,imoff+i*13+9,none⟩) hg).trans z9
   have x10:=(HB.out.cell (p:=⟨imblk,imoff+i*13+10,none⟩) hg).trans z10
   have x11:=(HB.out.cell (p:=⟨imblk,imoff+i*13+11,none⟩) hg).trans z11
   have x12:=(HB.out.cell (p:=⟨imblk,imoff+i*13+12,none⟩) hg).trans z12
   have Z0:=hid z0
   have Z1:=hid z1
   have Z2:=hid z2
   have Z3:=hid z3
   have Z4:=hid z4
   have Z5:=hid z5
   have Z6:=hid z6
   have Z7:=hid z7
   have Z8:=hid z8
   have Z9:=hid z9
   have Z10:=hid z10
   have Z11:=hid z11
   have Z12:=hid z12
   have HGL:=hid hg
   clear z0 z1 z2 z3 z4 z5 z6 z7 z8 z9 z10 z11 z12 hg
   have KKA:=fun W h=>hid (HimA.out i hlt W h)
   have HSN:=hid (show (QR (i+1)).all Qim=((QR i).all Qim&&(imA i)) by rw[range_all_snoc];rw[HQim.out])
   generalize imA i=bA at *
   generalize imz0 i=y0 at *
   generalize imz1 i=y1 at *
   generalize imt2 i=s2 at *
   generalize imt3 i=s3 at *
   generalize imt4 i=s4 at *
   generalize imt5 i=s5 at *
   generalize imt6 i=s6 at *
   generalize imu7 i=e7 at *
   generalize imt8 i=s8 at *
   generalize imt9 i=s9 at *
   generalize imu10 i=e10 at *
   generalize imt11 i=s11 at *
   generalize imu12 i=e12 at *
   rcases (show (ok=false)∨(ok=true∧bA=false)∨(ok=true∧bA=true) by cases ok<;>cases bA<;>simp) with rfl|⟨rfl,rfl⟩|⟨rfl,rfl⟩
   all_goals
    go_wp2_with (go_at_call 51;(with_reducible refine (KKA _ HB.out).out.mono ?_);rintro e w1 ⟨rfl,hb⟩;have HBA:=Qd HB hb;have HXA:=Qe HX hb;have y1:=HXA.out.at (k:=1) (v:=V (some ⟨imblk,imoff,none⟩) imn imc) rfl;have x0:=(HBA.out.cell (p:=⟨imblk,imoff+i*13,none⟩) HGL.out).trans Z0.out;have x1:=(HBA.out.cell (p:=⟨imblk,imoff+i*13+1,none⟩) HGL.out).trans Z1.out;have x2:=(HBA.out.cell (p:=⟨imblk,imoff+i*13+2,none⟩) HGL.out).trans Z2.out;have x3:=(HBA.out.cell (p:=⟨imblk,imoff+i*13+3,none⟩) HGL.out).trans Z3.out;have x4:=(HBA.out.cell (p:=⟨imblk,imoff+i*13+4,none⟩) HGL.out).trans Z4.out;have x5:=(HBA.out.cell (p:=⟨imblk,imoff+i*13+5,none⟩) HGL.out).trans Z5.out;have x6:=(HBA.out.cell (p:=⟨imblk,imoff+i*13+6,none⟩) HGL.out).trans Z6.out;have x7:=(HBA.out.cell (p:=⟨imblk,imoff+i*13+7,none⟩) HGL.out).trans Z7.out;have x8:=(HBA.out.cell (p:=⟨imblk,imoff+i*13+8,none⟩) HGL.out).trans Z8.out;have x9:=(HBA.out.cell (p:=⟨imblk,imoff+i*13+9,none⟩) HGL.out).trans Z9.out;have x10:=(HBA.out.cell (p:=⟨imblk,imoff+i*13+10,none⟩) HGL.out).trans Z10.out;have x11:=(HBA.out.cell (p:=⟨imblk,imoff+i*13+11,none⟩) HGL.out).trans Z11.out;have x12:=(HBA.out.cell (p:=⟨imblk,imoff+i*13+12,none⟩) HGL.out).trans Z12.out;clear hb)
    go_roundw
    case rel=>exact ⟨i+1,_,hlt,by go_num,rfl,hid (by rw[HSN.out,←Bool.and_assoc,←HK.out];rfl),HBA,HXA⟩
    case measure=>simp[intOf];omega
 have hie:imn=i:=by omega
 subst hie
 have HB2:=HB
 have HX2:=HX
 obtain ⟨ok1,hok1⟩:∃b,b=ok:=⟨_,rfl⟩
 have HK2:=hid (show ok1=(ok0&&(QR imn).all Qim) by rw[hok1];exact HK.out)
 subst hok1
 clear HB HX HK hlt hi
 have y2:=HX2.out.at (k:=2) (v:=V fp fn fc) rfl
 go_wp2
 go_loopw [3,9] (fun vo vi wr=>∃(i:Nat) (ok:Bool),i≤fn∧vi=I J i∧vo=G ok∧Hid (ok=(ok1&&(QR i).all Qf))∧Hid (Below w.heap.size w wr)∧Hid (CA w.heap.size #[V tp tn tc,V imp imn imc,V fp fn fc,V tbp tbn tbc,V mp mn mc,V gp gn gc,V xp xn xc,I J st,V ep en ec,V dp dn dc,G cnt] 32 wr)) (fun _ vi _=>fn-(intOf vi).toNat)
 case atStart=>exact ⟨0,ok1,Qz _,rfl,rfl,by simp[Hid],HB2,HX2⟩
 clear y2
 obtain ⟨i,ok,hi,rfl,rfl,HK,HB,HX⟩:=hrel
 have y2:=HX.out.at (k:=2) (v:=V fp fn fc) rfl
 have y10:=HX.out.at (k:=10) (v:=G cnt) rfl
 by_cases hlt:i<fn
 ·as_aux_lemma =>
   obtain ⟨z0,z1,z2⟩:=HfX.out i hlt
   obtain ⟨hpe,hg⟩:=HfG.out (by omega)
   subst hpe
   have x0:=(HB.out.cell (p:=⟨fblk,foff+i*3,none⟩) hg).trans z0
   have x1:=(HB.out.cell (p:=⟨fblk,foff+i*3+1,none⟩) hg).trans z1
   have x2:=(HB.out.cell (p:=⟨fblk,foff+i*3+2,none⟩) hg).trans z2
   have Z0:=hid z0
   have Z1:=hid z1
   have Z2:=hid z2
   have HGL:=hid hg
   clear z0 z1 z2 hg
   have KKA:=fun W h=>hid (HfA.out i hlt W h)
   have KKB:=fun W h=>hid (HfB.out i hlt W h)
   have KKC:=fun W h=>hid (HfC.out i hlt W h)
   have KKD:=fun W h=>hid (HfD.out i hlt W h)
   have HSN:=hid (show (QR (i+1)).all Qf=((QR i).all Qf&&(fA i&&fB i&&fC i&&decide ((fn1 i:Int)≤50000)&&(cnt||!fD i))) by rw[range_all_snoc];rw[HQf.out])
   generalize fA i=bA at *
   generalize fB i=bB at *
   generalize fC i=bC at *
   generalize fD i=bD at *
   generalize ft0 i=s0 at *
   generalize fp1 i=q1 at *
   generalize fn1 i=m1 at *
   generalize fc1 i=d1 at *
   generalize fp2 i=q2 at *
   generalize fn2 i=m2 at *
   generalize fc2 i=d2 at *
   obtain ⟨bL,hbL⟩:∃b,decide ((m1:Int)≤50000)=b:=⟨_,rfl⟩
   rw[hbL]at HSN
   have HE:=hid (CA.new wr #[I J s0,V q1 m1 d1,V q2 m2 d2] 42)
   have HBE:=hid (HB.out.alloc HB.out.size (Qc #[I J s0,V q1 m1 d1,V q2 m2 d2] 42))
   have HXE:=hid (HX.out.alloc (Qc #[I J s0,V q1 m1 d1,V q2 m2 d2] 42))
   rcases (show (ok=false)∨(ok=true∧bA=false)∨(ok=true∧bA=true∧bB=false)∨(ok=true∧bA=true∧bB=true∧bC=false)∨(ok=true∧bA=true∧bB=true∧bC=true∧bL=false)∨(ok=true∧bA=true∧bB=true∧bC=true∧bL=true∧cnt=true)∨(ok=true∧bA=true∧bB=true∧bC=true∧bL=true∧cnt=false∧bD=true)∨(ok=true∧bA=true∧bB=true∧bC=true∧bL=true∧cnt=false∧bD=false) by cases ok<;>cases bA<;>cases bB<;>cases bC<;>cases bL<;>cases cnt<;>cases bD<;>simp) with rfl|⟨rfl,rfl⟩|⟨rfl,rfl,rfl⟩|⟨rfl,rfl,rfl,rfl⟩|⟨rfl,rfl,rfl,rfl,rfl⟩|⟨rfl,rfl,rfl,rfl,rfl,rfl⟩|⟨rfl,rfl,rfl,rfl,rfl,rfl,rfl⟩|⟨rfl,rfl,rfl,rfl,rfl,rfl,rfl⟩
   all_goals
    go_wp2_with (first
     |(go_at_call 52;(with_reducible refine (KKA _ HBE.out).out.mono ?_);rintro e w1 ⟨rfl,hb⟩;have HBA:=Qd HBE hb;have HXA:=Qe HXE hb;have y2:=HXA.out.at (k:=2) (v:=V (some ⟨fblk,foff,none⟩) fn fc) rfl;(first|have y10:=HXA.out.at (k:=10) (v:=G cnt) rfl|have y10:=HXA.out.at (k:=10) (v:=G true) rfl|have y10:=HXA.out.at (k:=10) (v:=G false) rfl);have HEA:=Qe HE hb;have v0:=HEA.out.at (k:=0) (v:=I J s0) rfl;have v1:=HEA.out.at (k:=1) (v:=V q1 m1 d1) rfl;have v2:=HEA.out.at (k:=2) (v:=V q2 m2 d2) rfl;clear hb)
     |(go_at_call 50;(with_reducible refine (KKB _ HBA.out).out.mono ?_);rintro e w2 ⟨rfl,hb⟩;have HBB:=Qd HBA hb;have HXB:=Qe HXA hb;have y2:=HXB.out.at (k:=2) (v:=V (some ⟨fblk,foff,none⟩) fn fc) rfl;(first|have y10:=HXB.out.at (k:=10) (v:=G cnt) rfl|have y10:=HXB.out.at (k:=10) (v:=G true) rfl|have y10:=HXB.out.at (k:=10) (v:=G false) rfl);have HEB:=Qe HEA hb;have v0:=HEB.out.at (k:=0) (v:=I J s0) rfl;have v1:=HEB.out.at (k:=1) (v:=V q1 m1 d1) rfl;have v2:=HEB.out.at (k:=2) (v:=V q2 m2 d2) rfl;clear hb)
     |(go_at_call 26;(with_reducible refine (KKC _ HBB.out).out.mono ?_);rintro e w3 ⟨rfl,hb⟩;have HBC:=Qd HBB hb;have HXC:=Qe HXB hb;have y2:=HXC.out.at (k:=2) (v:=V (some ⟨fblk,foff,none⟩) fn fc) rfl;(first|have y10:=HXC.out.at (k:=10) (v:=G cnt) rfl|have y10:=HXC.out.at (k:=10) (v:=G true) rfl|have y10:=HXC.out.at (k:=10) (v:=G false) rfl);have HEC:=Qe HEB hb;have v0:=HEC.out.at (k:=0) (v:=I J s0) rfl;have v1:=HEC.out.at (k:=1) (v:=V q1 m1 d1) rfl;have v2:=HEC.out.at (k:=2) (v:=V q2 m2 d2) rfl;clear hb)
     |(go_at_call 53;(with_reducible refine (KKD _ HBC.out).out.mono ?_);rintro e w4 ⟨rfl,hb⟩;have HBD:=Qd HBC hb;have HXD:=Qe HXC hb;have y2:=HXD.out.at (k:=2) (v:=V (some ⟨fblk,foff,none⟩) fn fc) rfl;(first|have y10:=HXD.out.at (k:=10) (v:=G cnt) rfl|have y10:=HXD.out.at (k:=10) (v:=G true) rfl|have y10:=HXD.out.at (k:=10) (v:=G false) rfl);have HED:=Qe HEC hb;have v0:=HED.out.at (k:=0) (v:=I J s0) rfl;have v1:=HED.out.at (k:=1) (v:=V q1 m1 d1) rfl;have v2:=HED.out.at (k:=2) (v:=V q2 m2 d2) rfl;clear hb))
    go_roundw
    case rel=>exact ⟨i+1,_,hlt,by go_num,rfl,hid (by rw[HSN.out,←Bool.and_assoc,←HK.out];rfl),HBD,HXD⟩
    case measure=>simp[intOf];omega
 have hie:fn=i:=by omega
 subst hie
 have HB3:=HB
 have HX3:=HX
 obtain ⟨ok2,hok2⟩:∃b,b=ok:=⟨_,rfl⟩
 have HK3:=hid (show ok2=(ok1&&(QR fn).all Qf) by rw[hok2];exact HK.out)
 subst hok2
 clear HB HX HK hlt hi
 clear y10
 have y3:=HX3.out.at (k:=3) (v:=V tbp tbn tbc) rfl
 go_wp2
 go_loopw [3,15] (fun vo vi wr=>∃(i:Nat) (ok:Bool),i≤tbn∧vi=I J i∧vo=G ok∧Hid (ok=(ok2&&(QR i).all Qtb))∧Hid (Below w.heap.size w wr)∧Hid (CA w.heap.size #[V tp tn tc,V imp imn imc,V fp fn fc,V tbp tbn tbc,V mp mn mc,V gp gn gc,V xp xn xc,I J st,V ep en ec,V dp dn dc,G cnt] 32 wr)) (fun _ vi _=>tbn-(intOf vi).toNat)
 case atStart=>exact ⟨0,ok2,Qz _,rfl,rfl,by simp[Hid],HB3,HX3⟩
 clear y3
 obtain ⟨i,ok,hi,rfl,rfl,HK,HB,HX⟩:=hrel
 have y3:=HX.out.at (k:=3) (v:=V tbp tbn tbc) rfl
 by_cases hlt:i<tbn
 ·as_aux_lemma =>
   obtain ⟨z0,z1,z2,z3⟩:=HtbX.out i hlt
   obtain ⟨hpe,hg⟩:=HtbG.out (by omega)
   subst hpe
   have x0:=(HB.out.cell (p:=⟨tbblk,tboff+i*4,none⟩) hg).trans z0
   have x1:=(HB.out.cell (p:=⟨tbblk,tboff+i*4+1,none⟩) hg).trans z1
   have x2:=(HB.out.cell (p:=⟨tbblk,tboff+i*4+2,none⟩) hg).trans z2
   have x3:=(HB.out.cell (p:=⟨tbblk,tboff+i*4+3,none⟩) hg).trans z3
   have Z0:=hid z0
   have Z1:=hid z1
   have Z2:=hid z2
   have Z3:=hid z3
   have HGL:=hid hg
   clear z0 z1 z2 z3 hg
   have KKA:=fun W h=>hid (HtbA.out i hlt W h)
   have HSN:=hid (show (QR (i+1)).all Qtb=((QR i).all Qtb&&(tbA i)) by rw[range_all_snoc];rw[HQtb.out])
   generalize tbA i=bA at *
   generalize tbt0 i=s0 at *
   generalize tbt1 i=s1 at *
   generalize tbt2 i=s2 at *
   generalize tbu3 i=e3 at *
   rcases (show (ok=false)∨(ok=true∧bA=false)∨(ok=true∧bA=true) by cases ok<;>cases bA<;>simp) with rfl|⟨rfl,rfl⟩|⟨rfl,rfl⟩
   all_goals
    go_wp2_with (go_at_call 54;(with_reducible refine (KKA _ HB.out).out.mono ?_);rintro e w1 ⟨rfl,hb⟩;have HBA:=Qd HB hb;have HXA:=Qe HX hb;have y3:=HXA.out.at (k:=3) (v:=V (some ⟨tbblk,tboff,none⟩) tbn tbc) rfl;have x0:=(HBA.out.cell (p:=⟨tbblk,tboff+i*4,none⟩) HGL.out).trans Z0.out;have x1:=(HBA.out.cell (p:=⟨tbblk,tboff+i*4+1,none⟩) HGL.out).trans Z1.out;have x2:=(HBA.out.cell (p:=⟨tbblk,tboff+i*4+2,none⟩) HGL.out).trans Z2.out;have x3:=(HBA.out.cell (p:=⟨tbblk,tboff+i*4+3,none⟩) HGL.out).trans Z3.out;clear hb)
    go_roundw
    case rel=>exact ⟨i+1,_,hlt,by go_num,rfl,hid (by rw[HSN.out,←Bool.and_assoc,←HK.out];rfl),HBA,HXA⟩
    case measure=>simp[intOf];omega
 have hie:tbn=i:=by omega
 subst hie
 have HB4:=HB
 have HX4:=HX
 obtain ⟨ok3,hok3⟩:∃b,b=ok:=⟨_,rfl⟩
 have HK4:=hid (show ok3=(ok2&&(QR tbn).all Qtb) by rw[hok3];exact HK.out)
 subst hok3
 clear HB HX HK hlt hi
 have y4:=HX4.out.at (k:=4) (v:=V mp mn mc) rfl
 go_wp2
 go_loopw [3,17] (fun vo vi wr=>∃(i:Nat) (ok:Bool),i≤mn∧vi=I J i∧vo=G ok∧Hid (ok=(ok3&&(QR i).all Qm))∧Hid (Below w.heap.size w wr)∧Hid (CA w.heap.size #[V tp tn tc,V imp imn imc,V fp fn fc,V tbp tbn tbc,V mp mn mc,V gp gn gc,V xp xn xc,I J st,V ep en ec,V dp dn dc,G cnt] 32 wr)) (fun _ vi _=>mn-(intOf vi).toNat)
 case atStart=>exact ⟨0,ok3,Qz _,rfl,rfl,by simp[Hid],HB4,HX4⟩
 clear y4
 obtain ⟨i,ok,hi,rfl,rfl,HK,HB,HX⟩:=hrel
 have y4:=HX.out.at (k:=4) (v:=V mp mn mc) rfl
 by_cases hlt:i<mn
 ·as_aux_lemma =>
   obtain ⟨z0,z1,z2⟩:=HmX.out i hlt
   obtain ⟨hpe,hg⟩:=HmG.out (by omega)
   subst hpe
   have x0:=(HB.out.cell (p:=⟨mblk,moff+i*3,none⟩) hg).trans z0
   have x1:=(HB.out.cell (p:=⟨mblk,moff+i*3+1,none⟩) hg).trans z1
   have x2:=(HB.out.cell (p:=⟨mblk,moff+i*3+2,none⟩) hg).trans z2
   have Z0:=hid z0
   have Z1:=hid z1
   have Z2:=hid z2
   have HGL:=hid hg
   clear z0 z1 z2 hg
   have KKA:=fun W h=>hid (HmA.out i hlt W h)
   have HSN:=hid (show (QR (i+1)).all Qm=((QR i).all Qm&&(mA i)) by rw[range_all_snoc];rw[HQm.out])
   generalize mA i=bA at *
   generalize mt0 i=s0 at *
   generalize mt1 i=s1 at *
   generalize mu2 i=e2 at *
   rcases (show (ok=false)∨(ok=true∧bA=false)∨(ok=true∧bA=true) by cases ok<;>cases bA<;>simp) with rfl|⟨rfl,rfl⟩|⟨rfl,rfl⟩
   all_goals
    go_wp2_with (go_at_call 55;(with_reducible refine (KKA _ HB.out).out.mono ?_);rintro e w1 ⟨rfl,hb⟩;have HBA:=Qd HB hb;have HXA:=Qe HX hb;have y4:=HXA.out.at (k:=4) (v:=V (some ⟨mblk,moff,none⟩) mn mc) rfl;have x0:=(HBA.out.cell (p:=⟨mblk,moff+i*3,none⟩) HGL.out).trans Z0.out;have x1:=(HBA.out.cell (p:=⟨mblk,moff+i*3+1,none⟩) HGL.out).trans Z1.out;have x2:=(HBA.out.cell (p:=⟨mblk,moff+i*3+2,none⟩) HGL.out).trans Z2.out;clear hb)
    go_roundw
    case rel=>exact ⟨i+1,_,hlt,by go_num,rfl,hid (by rw[HSN.out,←Bool.and_assoc,←HK.out];rfl),HBA,HXA⟩
    case measure=>simp[intOf];omega
 have hie:mn=i:=by omega
 subst hie
 have HB5:=HB
 have HX5:=HX
 obtain ⟨ok4,hok4⟩:∃b,b=ok:=⟨_,rfl⟩
 have HK5:=hid (show ok4=(ok3&&(QR mn).all Qm) by rw[hok4];exact HK.out)
 subst hok4
 clear HB HX HK hlt hi
 have y5:=HX5.out.at (k:=5) (v:=V gp gn gc) rfl
 go_wp2
 go_loopw [3,19] (fun vo vi wr=>∃(i:Nat) (ok:Bool),i≤gn∧vi=I J i∧vo=G ok∧Hid (ok=(ok4&&(QR i).all Qg))∧Hid (Below w.heap.size w wr)∧Hid (CA w.heap.size #[V tp tn tc,V imp imn imc,V fp fn fc,V tbp tbn tbc,V mp mn mc,V gp gn gc,V xp xn xc,I J st,V ep en ec,V dp dn dc,G cnt] 32 wr)) (fun _ vi _=>gn-(intOf vi).toNat)
 case atStart=>exact ⟨0,ok4,Qz _,rfl,rfl,by simp[Hid],HB5,HX5⟩
 clear y5
 obtain ⟨i,ok,hi,rfl,rfl,HK,HB,HX⟩:=hrel
 have y5:=HX.out.at (k:=5) (v:=V gp gn gc) rfl
 by_cases hlt:i<gn
 ·as_aux_lemma =>
   obtain ⟨z0,z1,z2⟩:=HgX.out i hlt
   obtain ⟨hpe,hg⟩:=HgG.out (by omega)
   subst hpe
   have x0:=(HB.out.cell (p:=⟨gblk,goff+i*3,none⟩) hg).trans z0
   have x1:=(HB.out.cell (p:=⟨gblk,goff+i*3+1,none⟩) hg).trans z1
   have x2:=(HB.out.cell (p:=⟨gblk,goff+i*3+2,none⟩) hg).trans z2
   have Z0:=hid z0
   have Z1:=hid z1
   have Z2:=hid z2
   have HGL:=hid hg
   clear z0 z1 z2 hg
   have KKA:=fun W h=>hid (HgA.out i hlt W h)
   have KKB:=fun W h=>hid (HgB.out i hlt W h)
   have HSN:=hid (show (QR (i+1)).all Qg=((QR i).all Qg&&(gA i&&gB i)) by rw[range_all_snoc];rw[HQg.out])
   generalize gA i=bA at *
   generalize gB i=bB at *
   generalize gt0 i=s0 at *
   generalize gu1 i=e1 at *
   generalize gp2 i=q2 at *
   generalize gn2 i=m2 at *
   generalize gc2 i=d2 at *
   rcases (show (ok=false)∨(ok=true∧bA=false)∨(ok=true∧bA=true∧bB=false)∨(ok=true∧bA=true∧bB=true) by cases ok<;>cases bA<;>cases bB<;>simp) with rfl|⟨rfl,rfl⟩|⟨rfl,rfl,rfl⟩|⟨rfl,rfl,rfl⟩
   all_goals
    go_wp2_with (first
     |(go_at_call 56;(with_reducible refine (KKA _ HB.out).out.mono ?_);rintro e w1 ⟨rfl,hb⟩;have HBA:=Qd HB hb;have HXA:=Qe HX hb;have y5:=HXA.out.at (k:=5) (v:=V (some ⟨gblk,goff,none⟩) gn gc) rfl;have x0:=(HBA.out.cell (p:=⟨gblk,goff+i*3,none⟩) HGL.out).trans Z0.out;have x1:=(HBA.out.cell (p:=⟨gblk,goff+i*3+1,none⟩) HGL.out).trans Z1.out;have x2:=(HBA.out.cell (p:=⟨gblk,goff+i*3+2,none⟩) HGL.out).trans Z2.out;clear hb)
     |(go_at_call 26;(with_reducible refine (KKB _ HBA.out).out.mono ?_);rintro e w2 ⟨rfl,hb⟩;have HBB:=Qd HBA hb;have HXB:=Qe HXA hb;have y5:=HXB.out.at (k:=5) (v:=V (some ⟨gblk,goff,none⟩) gn gc) rfl;have x0:=(HBB.out.cell (p:=⟨gblk,goff+i*3,none⟩) HGL.out).trans Z0.out;have x1:=(HBB.out.cell (p:=⟨gblk,goff+i*3+1,none⟩) HGL.out).trans Z1.out;have x2:=(HBB.out.cell (p:=⟨gblk,goff+i*3+2,none⟩) HGL.out).trans Z2.out;clear hb))
    go_roundw
    case rel=>exact ⟨i+1,_,hlt,by go_num,rfl,hid (by rw[HSN.out,←Bool.and_assoc,←HK.out];rfl),HBB,HXB⟩
    case measure=>simp[intOf];omega
 have hie:gn=i:=by omega
 subst hie
 have HB6:=HB
 have HX6:=HX
 obtain ⟨ok5,hok5⟩:∃b,b=ok:=⟨_,rfl⟩
 have HK6:=hid (show ok5=(ok4&&(QR gn).all Qg) by rw[hok5];exact HK.out)
 subst hok5
 clear HB HX HK hlt hi
 have y6:=HX6.out.at (k:=6) (v:=V xp xn xc) rfl
 go_wp2
 go_loopw [3,22] (fun vo vi wr=>∃(i:Nat) (ok:Bool),i≤xn∧vi=I J i∧vo=G ok∧Hid (ok=(ok5&&(QR i).all Qx))∧Hid (Below w.heap.size w wr)∧Hid (CA w.heap.size #[V tp tn tc,V imp imn imc,V fp fn fc,V tbp tbn tbc,V mp mn mc,V gp gn gc,V xp xn xc,I J st,V ep en ec,V dp dn dc,G cnt] 32 wr)) (fun _ vi _=>xn-(intOf vi).toNat)
 case atStart=>exact ⟨0,ok5,Qz _,rfl,rfl,by simp[Hid],HB6,HX6⟩
 clear y6
 obtain ⟨i,ok,hi,rfl,rfl,HK,HB,HX⟩:=hrel
 have y6:=HX.out.at (k:=6) (v:=V xp xn xc) rfl
 by_cases hlt:i<xn
 ·as_aux_lemma =>
   obtain ⟨z0,z1,z2⟩:=HxX.out i hlt
   obtain ⟨hpe,hg⟩:=HxG.out (by omega)
   subst hpe
   have x0:=(HB.out.cell (p:=⟨xblk,xoff+i*3,none⟩) hg).trans z0
   have x1:=(HB.out.cell (p:=⟨xblk,xoff+i*3+1,none⟩) hg).trans z1
   have x2:=(HB.out.cell (p:=⟨xblk,xoff+i*3+2,none⟩) hg).trans z2
   have Z0:=hid z0
   have Z1:=hid z1
   have Z2:=hid z2
   have HGL:=hid hg
   clear z0 z1 z2 hg
   have KKA:=fun W h=>hid (HxA.out i hlt W h)
   have KKB:=fun W h=>hid (HxB.out i hlt W h)
   have HSN:=hid (show (QR (i+1)).all Qx=((QR i).all Qx&&(xA i&&xB i&&decide (0≤xt1 i)&&decide (xt1 i≤3))) by rw[range_all_snoc];rw[HQx.out])
   generalize xA i=bA at *
   generalize xB i=bB at *
   generalize xz0 i=y0 at *
   generalize xt1 i=s1 at *
   generalize xt2 i=s2 at *
   obtain ⟨bU,hbU⟩:∃b,decide (0≤s1)=b:=⟨_,rfl⟩
   obtain ⟨bV,hbV⟩:∃b,decide (s1≤3)=b:=⟨_,rfl⟩
   rw[hbU,hbV]at HSN
   have HE:=hid (CA.new wr #[Qs y0,I J s1,I J s2] 76)
   have HBE:=hid (HB.out.alloc HB.out.size (Qc #[Qs y0,I J s1,I J s2] 76))
   have HXE:=hid (HX.out.alloc (Qc #[Qs y0,I J s1,I J s2] 76))
   rcases (show (ok=false)∨(ok=true∧bA=false)∨(ok=true∧bA=true∧bB=false)∨(ok=true∧bA=true∧bB=true∧bU=false)∨(ok=true∧bA=true∧bB=true∧bU=true∧bV=false)∨(ok=true∧bA=true∧bB=true∧bU=true∧bV=true) by cases ok<;>cases bA<;>cases bB<;>cases bU<;>cases bV<;>simp) with rfl|⟨rfl,rfl⟩|⟨rfl,rfl,rfl⟩|⟨rfl,rfl,rfl,rfl⟩|⟨rfl,rfl,rfl,rfl,rfl⟩|⟨rfl,rfl,rfl,rfl,rfl⟩
   all_goals
    go_wp2_with (first
     |(go_at_call 57;(with_reducible refine (KKA _ HBE.out).out.mono ?_);rintro e w1 ⟨rfl,hb⟩;have HBA:=Qd HBE hb;have HXA:=Qe HXE hb;have y6:=HXA.out.at (k:=6) (v:=V (some ⟨xblk,xoff,none⟩) xn xc) rfl;have HEA:=Qe HE hb;have v0:=HEA.out.at (k:=0) (v:=Qs y0) rfl;have v1:=HEA.out.at (k:=1) (v:=I J s1) rfl;have v2:=HEA.out.at (k:=2) (v:=I J s2) rfl;clear hb)
     |(go_at_call 52;(with_reducible refine (KKB _ HBA.out).out.mono ?_);rintro e w2 ⟨rfl,hb⟩;have HBB:=Qd HBA hb;have HXB:=Qe HXA hb;have y6:=HXB.out.at (k:=6) (v:=V (some ⟨xblk,xoff,none⟩) xn xc) rfl;have HEB:=Qe HEA hb;have v0:=HEB.out.at (k:=0) (v:=Qs y0) rfl;have v1:=HEB.out.at (k:=1) (v:=I J s1) rfl;have v2:=HEB.out.at (k:=2) (v:=I J s2) rfl;clear hb))
    go_roundw
    case rel=>exact ⟨i+1,_,hlt,by go_num,rfl,hid (by rw[HSN.out,←Bool.and_assoc,←HK.out];rfl),HBB,HXB⟩
    case measure=>simp[intOf];omega
 have hie:xn=i:=by omega
 subst hie
 have HB7:=HB
 have HX7:=HX
 obtain ⟨ok6,hok6⟩:∃b,b=ok:=⟨_,rfl⟩
 have HK7:=hid (show ok6=(ok5&&(QR xn).all Qx) by rw[hok6];exact HK.out)
 subst hok6
 clear HB HX HK hlt hi
 cases ok6 with
 |false =>
  go_wp2
  go_ret
  exact ⟨by rw[HR.out,←HK1.out,←HK2.out,←HK3.out,←HK4.out,←HK5.out,←HK6.out,←HK7.out];rfl,HB7.out⟩
 |true =>
  obtain ⟨y0,y1,y2,y3,y4,y5,y6,y7,y8,y9,y10⟩:=ca11 HX7.out
  go_wp2_with (go_at_call 58;(with_reducible refine (HSG _ HB7.out).out.mono ?_);rintro e w9 ⟨rfl,hb⟩;have HB9:=Qd HB7 hb;clear hb)
  go_ret
  exact ⟨by rw[HR.out,←HK1.out,←HK2.out,←HK3.out,←HK4.out,←HK5.out,←HK6.out,←HK7.out,Bool.true_and];rfl,HB9.out⟩
theorem range_all_snocS (P:Nat→Bool) (i:Nat):(QR (i+1)).all P=((QR i).all P&&P i):=by
 rw[List.range_succ,List.all_append]
 simp
theorem RSeg_says (tp imp fp tbp mp gp xp ep dp:Option Addr) (tn tc imn imc fn fc tbn tbc mn mc gn gc xn xc en ec dn dc:Nat) (st:Int) (cnt:Bool) (eblk eoff dblk doff:Nat)
  (er em et:Nat→Int) (eop:Nat→Option Addr) (eon eoc:Nat→Nat) (eip:Nat→Option Addr) (ein eic iblk ioff:Nat→Nat) (eo:Nat→Bool) (eb:Nat→Nat→Bool) (bp:Nat→Nat→Option Addr) (bn bc:Nat→Nat→Nat)
  (dm dt:Nat→Int) (dop:Nat→Option Addr) (don doc:Nat→Nat) (dbp:Nat→Option Addr) (dbn dbc:Nat→Nat) (dv:Nat→Bool) (w:World)
  (hel:en<9223372036854775807) (hdl:dn<9223372036854775807) (heg:en≠0→ep=some ⟨eblk,eoff,none⟩∧eblk<w.heap.size) (hdg:dn≠0→dp=some ⟨dblk,doff,none⟩∧dblk<w.heap.size)
  (hex:∀i,i<en→w.cell? ⟨eblk,eoff+i*5,none⟩=some (I J (er i))∧w.cell? ⟨eblk,eoff+i*5+1,none⟩=some (I J (em i))∧w.cell? ⟨eblk,eoff+i*5+2,none⟩=some (I J (et i))∧w.cell? ⟨eblk,eoff+i*5+3,none⟩=some (V (eop i) (eon i) (eoc i))∧w.cell? ⟨eblk,eoff+i*5+4,none⟩=some (V (eip i) (ein i) (eic i)))
  (hil:∀i,i<en→ein i<9223372036854775807) (hig:∀i,i<en→ein i≠0→eip i=some ⟨iblk i,ioff i,none⟩∧iblk i<w.heap.size)
  (hix:∀i,i<en→∀k,k<ein i→w.cell? ⟨iblk i,ioff i+k,none⟩=some (V (bp i k) (bn i k) (bc i k)))
  (heo:∀i,i<en→∀W,Below w.heap.size w W→Calls QP 26 #[V (eop i) (eon i) (eoc i)] W fun e w'=>e=Qr (G (eo i))∧Below W.heap.size W w')
  (heb:∀i,i<en→∀k,k<ein i→∀W,Below w.heap.size w W→Calls QP 26 #[V (bp i k) (bn i k) (bc i k)] W fun e w'=>e=Qr (G (eb i k))∧Below W.heap.size W w')
  (hdx:∀i,i<dn→w.cell? ⟨dblk,doff+i*4,none⟩=some (I J (dm i))∧w.cell? ⟨dblk,doff+i*4+1,none⟩=some (I J (dt i))∧w.cell? ⟨dblk,doff+i*4+2,none⟩=some (V (dop i) (don i) (doc i))∧w.cell? ⟨dblk,doff+i*4+3,none⟩=some (V (dbp i) (dbn i) (dbc i)))
  (hdo:∀i,i<dn→∀W,Below w.heap.size w W→Calls QP 26 #[V (dop i) (don i) (doc i)] W fun e w'=>e=Qr (G (dv i))∧Below W.heap.size W w') :
  Calls QP 58 #[.agg #[V tp tn tc,V imp imn imc,V fp fn fc,V tbp tbn tbc,V mp mn mc,V gp gn gc,V xp xn xc,I J st,V ep en ec,V dp dn dc,G cnt]] w fun e w'=>e=Qr (G ((QR en).all (fun i=>refB (er i)&&placeR (em i) (et i) (eo i) (eon i)&&decide (0≤em i)&&decide (em i≤2)&&(QR (ein i)).all (eb i))&&(QR dn).all (fun i=>placeR (dm i) (dt i) (dv i) (don i)&&decide (0≤dm i)&&decide (dm i≤1))))∧Below w.heap.size w w':=by
 have HEG:=hid heg
 have HEX:=hid hex
 have HIL:=hid hil
 have HIG:=hid hig
 have HIX:=hid hix
 have HEO:=hid heo
 have HEB:=hid heb
 have HDG:=hid hdg
 have HDX:=hid hdx
 have HDO:=hid hdo
 have ne62:(en:Int)<9223372036854775808:=by omega
 have nd62:(dn:Int)<9223372036854775808:=by omega
 obtain ⟨Qe,hQe⟩:∃Q:Nat→Bool,Q=(fun i=>refB (er i)&&placeR (em i) (et i) (eo i) (eon i)&&decide (0≤em i)&&decide (em i≤2)&&(QR (ein i)).all (eb i)):=⟨_,rfl⟩
 rw[←hQe]
 have HQe:=hid hQe
 obtain ⟨Qd,hQd⟩:∃Q:Nat→Bool,Q=(fun i=>placeR (dm i) (dt i) (dv i) (don i)&&decide (0≤dm i)&&decide (dm i≤1)):=⟨_,rfl⟩
 rw[←hQd]
 have HQd:=hid hQd
 obtain ⟨R,hR⟩:∃R,R=((QR en).all Qe&&(QR dn).all Qd):=⟨_,rfl⟩
 rw[←hR]
 have HR:=hid hR
 have HX0:=hid (CA.new w #[V tp tn tc,V imp imn imc,V fp fn fc,V tbp tbn tbc,V mp mn mc,V gp gn gc,V xp xn xc,I J st,V ep en ec,V dp dn dc,G cnt] 32)
 have HB0:=hid ((QB w.heap.size w).alloc (Ql _) (Qc #[V tp tn tc,V imp imn imc,V fp fn fc,V tbp tbn tbc,V mp mn mc,V gp gn gc,V xp xn xc,I J st,V ep en ec,V dp dn dc,G cnt] 32))
 have y8:=HX0.out.at (k:=8) (v:=V ep en ec) rfl
 clear heg hex hil hig hix heo heb hdg hdx hdo hQe hQd hR hel hdl
 go_enter Tryz.func58,Tryz.ntmps58
 go_wp2
 go_loopw [3,4] (fun vo vi wr=>∃(i:Nat) (ok:Bool),i≤en∧vi=I J i∧vo=G ok∧Hid (ok=(QR i).all Qe)∧Hid (Below w.heap.size w wr)∧Hid (CA w.heap.size #[V tp tn tc,V imp imn imc,V fp fn fc,V tbp tbn tbc,V mp mn mc,V gp gn gc,V xp xn xc,I J st,V ep en ec,V dp dn dc,G cnt] 32 wr)) (fun _ vi _=>en-(intOf vi).toNat)
 case atStart=>exact ⟨0,true,Qz _,rfl,rfl,by simp[Hid],HB0,HX0⟩
 clear y8
 obtain ⟨i,ok,hi,rfl,rfl,HK,HB,HX⟩:=hrel
 have y8:=HX.out.at (k:=8) (v:=V ep en ec) rfl
 by_cases hlt:i<en
 ·as_aux_lemma =>
   obtain ⟨z0,z1,z2,z3,z4⟩:=HEX.out i hlt
   obtain ⟨hpe,hg⟩:=HEG.out (by omega)
   subst hpe
   have x0:=(HB.out.cell (p:=⟨eblk,eoff+i*5,none⟩) hg).trans z0
   have x1:=(HB.out.cell (p:=⟨eblk,eoff+i*5+1,none⟩) hg).trans z1
   have x2:=(HB.out.cell (p:=⟨eblk,eoff+i*5+2,none⟩) hg).trans z2
   have x3:=(HB.out.cell (p:=⟨eblk,eoff+i*5+3,none⟩) hg).trans z3
   have x4:=(HB.out.cell (p:=⟨eblk,eoff+i*5+4,none⟩) hg).trans z4
   clear z0 z1 z2 z3 z4
   have KO:=fun W h=>hid (HEO.out i hlt W h)
   have KB:=hid (HEB.out i hlt)
   have KX:=hid (HIX.out i hlt)
   have KG:=hid (HIG.out i hlt)
   have KL:=HIL.out i hlt
   have HSN:=hid (show (QR (i+1)).all Qe=((QR i).all Qe&&(refB (er i)&&placeR (em i) (et i) (eo i) (eon i)&&decide (0≤em i)&&decide (em i≤2)&&(QR (ein i)).all (eb i))) by rw[range_all_snocS];rw[HQe.out])
   generalize eb i=b2 at *
   generalize bp i=b3 at *
   generalize bn i=b4 at *
   generalize bc i=b5 at *
   generalize eo i=bO at *
   generalize er i=sr at *
   generalize em i=sm at *
   generalize et i=sf at *
   generalize eop i=qo at *
   generalize eon i=mo at *
   generalize eoc i=eo' at *
   generalize eip i=qi at *
   generalize ein i=mi at *
   generalize eic i=di at *
   generalize iblk i=kb at *
   generalize ioff i=ko at *
   have nmi:(mi:Int)<9223372036854775808:=by omega
   obtain ⟨u0,hu0⟩:∃b,decide (0≤sm)=b:=⟨_,rfl⟩
   obtain ⟨u1,hu1⟩:∃b,decide (sm≤2)=b:=⟨_,rfl⟩
   obtain ⟨bA,hbA⟩:∃b,refB sr=b:=⟨_,rfl⟩
   obtain ⟨bP,hbP⟩:∃b,placeR sm sf bO mo=b:=⟨_,rfl⟩
   rw[hu0,hu1,hbA,hbP]at HSN
   have KA:=fun W=>hid (show Calls QP 154 #[I J sr] W fun e w'=>e=Qr (G bA)∧W=w' by rw[←hbA];exact RRef_says sr W)
   have KP:=fun W (h:Below w.heap.size w W)=>hid (show Calls QP 156 #[I J sm,I J sf,V qo mo eo'] W fun e w'=>e=Qr (G bP)∧Below W.heap.size W w' by rw[←hbP];exact Rplace_says sm sf qo mo eo' bO W (fun W' h'=>(KO W' (h.trans (h'.mono h.size))).out))
   clear hbA hbP
   obtain ⟨S,hS⟩:∃S,S=(ok&&bA&&bP&&u0&&u1):=⟨_,rfl⟩
   have HS:=hid hS
   have HSN2:=hid (show (QR (i+1)).all Qe=(S&&(QR mi).all b2) by rw[HSN.out,←HK.out,hS];simp[Bool.and_assoc])
   have HE:=hid (CA.new wr #[I J sr,I J sm,I J sf,V qo mo eo',V qi mi di] 62)
   have HBE:=hid (HB.out.alloc HB.out.size (Qc #[I J sr,I J sm,I J sf,V qo mo eo',V qi mi di] 62))
   have HXE:=hid (HX.out.alloc (Qc #[I J sr,I J sm,I J sf,V qo mo eo',V qi mi di] 62))
   clear HSN hS
   rcases (show (ok=false)∨(ok=true∧bA=false)∨(ok=true∧bA=true∧bP=false)∨(ok=true∧bA=true∧bP=true∧u0=false)∨(ok=true∧bA=true∧bP=true∧u0=true∧u1=false)∨(ok=true∧bA=true∧bP=true∧u0=true∧u1=true) by cases ok<;>cases bA<;>cases bP<;>cases u0<;>cases u1<;>simp) with rfl|⟨rfl,rfl⟩|⟨rfl,rfl,rfl⟩|⟨rfl,rfl,rfl,rfl⟩|⟨rfl,rfl,rfl,rfl,rfl⟩|⟨rfl,rfl,rfl,rfl,rfl⟩
   all_goals
    go_wp2_with (first
     |(go_at_call 154;(with_reducible refine (KA _).out.mono ?_);rintro e w1 ⟨rfl,rfl⟩)
     |(go_at_call 156;(with_reducible refine (KP _ HBE.out).out.mono ?_);rintro e w2 ⟨rfl,hb⟩;have HBP:=hid (HBE.out.trans (hb.mono HBE.out.size));have HXP:=hid (HXE.out.below hb HXE.out.lt);have HEP:=hid (HE.out.below hb HE.out.lt);have v0:=HEP.out.at (k:=0) (v:=I J sr) rfl;have v1:=HEP.out.at (k:=1) (v:=I J sm) rfl;have v2:=HEP.out.at (k:=2) (v:=I J sf) rfl;have v3:=HEP.out.at (k:=3) (v:=V qo mo eo') rfl;have v4:=HEP.out.at (k:=4) (v:=V qi mi di) rfl;clear hb))
    go_loopw [3,8] (fun vo vi wj=>∃(k:Nat) (ok:Bool),k≤mi∧vi=I J k∧vo=G ok∧Hid (ok=(S&&(QR k).all b2))∧Hid (Below w.heap.size w wj)∧Hid (CA w.heap.size #[V tp tn tc,V imp imn imc,V fp fn fc,V tbp tbn tbc,V mp mn mc,V gp gn gc,V xp xn xc,I J st,V (some ⟨eblk,eoff,none⟩) en ec,V dp dn dc,G cnt] 32 wj)∧Hid (CA wr.heap.size #[I J sr,I J sm,I J sf,V qo mo eo',V qi mi di] 62 wj)) (fun _ vi _=>mi-(intOf vi).toNat)
    case atStart=>exact ⟨0,_,Qz _,rfl,rfl,hid (by rw[HS.out];rfl),HBP,HXP,HEP⟩
    clear v0 v1 v2 v3 v4
    obtain ⟨k,okk,hk,rfl,rfl,HKK,HBK,HXK,HEK⟩:=hrel
    have v4:=HEK.out.at (k:=4) (v:=V qi mi di) rfl
    by_cases hkt:k<mi
    ·have zk:=KX.out k hkt
     obtain ⟨hpi,hgi⟩:=KG.out (by omega)
     subst hpi
     have x9:=(HBK.out.cell (p:=⟨kb,ko+k,none⟩) hgi).trans zk
     have KC:=fun W h=>hid (KB.out k hkt W h)
     have HSK:=hid (show (QR (k+1)).all b2=((QR k).all b2&&b2 k) from range_all_snocS b2 k)
     clear zk
     generalize b2 k=bC at *
     generalize b3 k=q9 at *
     generalize b4 k=m9 at *
     generalize b5 k=d9 at *
     cases okk
     all_goals
      go_wp2_with (go_at_call 26;(with_reducible refine (KC _ HBK.out).out.mono ?_);rintro e w3 ⟨rfl,hb⟩;have HBC:=hid (HBK.out.trans (hb.mono HBK.out.size));have HXC:=hid (HXK.out.below hb HXK.out.lt);have HEC:=hid (HEK.out.below hb HEK.out.lt);clear hb)
      go_roundw
      case rel=>exact ⟨k+1,_,hkt,by go_num,rfl,hid (by rw[HSK.out,←Bool.and_assoc,←HKK.out];rfl),HBC,HXC,HEC⟩
      case measure=>simp[intOf];omega
    have hke:mi=k:=by omega
    subst hke
    go_wp2
    go_roundw
    case rel=>exact ⟨i+1,okk,hlt,by go_num,rfl,hid (by rw[HSN2.out];exact HKK.out),HBK,HXK⟩
    case measure=>simp[intOf];omega
 have hie:en=i:=by omega
 subst hie
 have y9:=HX.out.at (k:=9) (v:=V dp dn dc) rfl
 clear hlt hi
 obtain ⟨ok1,hok1⟩:∃b,b=ok:=⟨_,rfl⟩
 have HK1:=hid (show ok1=(QR en).all Qe by rw[hok1];exact HK.out)
 subst hok1
 have HB1:=HB
 have HX1:=HX
 clear HK HB HX
 go_wp2
 go_loopw [3,10] (fun vo vi wr=>∃(i:Nat) (ok:Bool),i≤dn∧vi=I J i∧vo=G ok∧Hid (ok=(ok1&&(QR i).all Qd))∧Hid (Below w.heap.size w wr)∧Hid (CA w.heap.size #[V tp tn tc,V imp imn imc,V fp fn fc,V tbp tbn tbc,V mp mn mc,V gp gn gc,V xp xn xc,I J st,V ep en ec,V dp dn dc,G cnt] 32 wr)) (fun _ vi _=>dn-(intOf vi).toNat)
 case atStart=>exact ⟨0,ok1,Qz _,rfl,rfl,by simp[Hid],HB1,HX1⟩
 clear y9
 obtain ⟨i,ok,hi,rfl,rfl,HK,HB,HX⟩:=hrel
 have y9:=HX.out.at (k:=9) (v:=V dp dn dc) rfl
 by_cases hlt:i<dn
 ·as_aux_lemma =>
   obtain ⟨z0,z1,z2,z3⟩:=HDX.out i hlt
   obtain ⟨hpe,hg⟩:=HDG.out (by omega)
   subst hpe
   have x0:=(HB.out.cell (p:=⟨dblk,doff+i*4,none⟩) hg).trans z0
   have x1:=(HB.out.cell (p:=⟨dblk,doff+i*4+1,none⟩) hg).trans z1
   have x2:=(HB.out.cell (p:=⟨dblk,doff+i*4+2,none⟩) hg).trans z2
   have x3:=(HB.out.cell (p:=⟨dblk,doff+i*4+3,none⟩) hg).trans z3
   clear z0 z1 z2 z3
   have KO:=fun W h=>hid (HDO.out i hlt W h)
   have HSN:=hid (show (QR (i+1)).all Qd=((QR i).all Qd&&(placeR (dm i) (dt i) (dv i) (don i)&&decide (0≤dm i)&&decide (dm i≤1))) by rw[range_all_snocS];rw[HQd.out])
   generalize dv i=bO at *
   generalize dm i=sm at *
   generalize dt i=sf at *
   generalize dop i=qo at *
   generalize don i=mo at *
   generalize doc i=eo' at *
   generalize dbp i=qb at *
   generalize dbn i=mb at *
   generalize dbc i=eb' at *
   obtain ⟨u0,hu0⟩:∃b,decide (0≤sm)=b:=⟨_,rfl⟩
   obtain ⟨u1,hu1⟩:∃b,decide (sm≤1)=b:=⟨_,rfl⟩
   obtain ⟨bP,hbP⟩:∃b,placeR sm sf bO mo=b:=⟨_,rfl⟩
   rw[hu0,hu1,hbP]at HSN
   have KP:=fun W (h:Below w.heap.size w W)=>hid (show Calls QP 156 #[I J sm,I J sf,V qo mo eo'] W fun e w'=>e=Qr (G bP)∧Below W.heap.size W w' by rw[←hbP];exact Rplace_says sm sf qo mo eo' bO W (fun W' h'=>(KO W' (h.trans (h'.mono h.size))).out))
   clear hbP
   have HE:=hid (CA.new wr #[I J sm,I J sf,V qo mo eo',V qb mb eb'] 64)
   have HBE:=hid (HB.out.alloc HB.out.size (Qc #[I J sm,I J sf,V qo mo eo',V qb mb eb'] 64))
   have HXE:=hid (HX.out.alloc (Qc #[I J sm,I J sf,V qo mo eo',V qb mb eb'] 64))
   rcases (show (ok=false)∨(ok=true∧bP=false)∨(ok=true∧bP=true∧u0=false)∨(ok=true∧bP=true∧u0=true∧u1=false)∨(ok=true∧bP=true∧u0=true∧u1=true) by cases ok<;>cases bP<;>cases u0<;>cases u1<;>simp) with rfl|⟨rfl,rfl⟩|⟨rfl,rfl,rfl⟩|⟨rfl,rfl,rfl,rfl⟩|⟨rfl,rfl,rfl,rfl⟩
   all_goals
    go_wp2_with (go_at_call 156;(with_reducible refine (KP _ HBE.out).out.mono ?_);rintro e w2 ⟨rfl,hb⟩;have HBP:=hid (HBE.out.trans (hb.mono HBE.out.size));have HXP:=hid (HXE.out.below hb HXE.out.lt);have HEP:=hid (HE.out.below hb HE.out.lt);have v0:=HEP.out.at (k:=0) (v:=I J sm) rfl;have v1:=HEP.out.at (k:=1) (v:=I J sf) rfl;have v2:=HEP.out.at (k:=2) (v:=V qo mo eo') rfl;have v3:=HEP.out.at (k:=3) (v:=V qb mb eb') rfl;clear hb)
    go_roundw
    case rel=>exact ⟨i+1,_,hlt,by go_num,rfl,hid (by rw[HSN.out,←Bool.and_assoc,←Bool.and_assoc,←Bool.and_assoc,←HK.out];rfl),HBP,HXP⟩
    case measure=>simp[intOf];omega
 have hie:dn=i:=by omega
 subst hie
 go_wp2
 go_ret
 exact ⟨by rw[HR.out,←HK1.out,←HK.out];rfl,HB.out⟩
end Go.Proofs.YtjgeedgphcjhoaaGreat
