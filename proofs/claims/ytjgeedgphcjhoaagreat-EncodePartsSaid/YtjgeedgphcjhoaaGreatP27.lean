/-
  Fits, FitsM, EParL: merged, what the law does not reach left out (each text says what it holds where it lies in wip). No condition.
-/
import Derived.Test.YtjgeedgphcjhoaaGreatS01
import Derived.Deep.DeepCutAuto
import Derived.Deep.CutBlock
import Derived.Test.YtjgeedgphcjhoaaGreatS12
import Derived.Test.YtjgeedgphcjhoaaGreatS26
import Derived.Test.YtjgeedgphcjhoaaGreatS22
set_option linter.unusedSimpArgs false
set_option linter.unusedVariables false
set_option maxRecDepth 100000
set_option maxHeartbeats 64000000
namespace Go.Proofs.YtjgeedgphcjhoaaGreat
open Go.RowKit
open Value renaming int → I,slice → V,bool → G,string → Qs
open IntKind renaming i64 → J
open Ending renaming returned → Qr
open Obj renaming cells → Qc
open _root_.Go.Proofs.Tryz renaming prog → QP
open Nat renaming le_refl → Ql,zero_le → Qz
open Below renaming refl → QB
theorem Fits_says (tp imp fp tbp mp gp xp ep dp:Option Addr) (tn tc imn imc fn fc tbn tbc mn mc gn gc xn xc en ec dn dc:Nat) (st:Int) (cnt:Bool) (tblk toff:Nat) (tp0:Nat→Option Addr) (tn0 tc0:Nat→Nat) (tp1:Nat→Option Addr) (tn1 tc1:Nat→Nat) (imblk imoff:Nat) (imz0:Nat→ByteArray) (imz1:Nat→ByteArray) (xblk xoff:Nat) (xz0:Nat→ByteArray) (fblk foff:Nat) (fp1:Nat→Option Addr) (fn1 fc1:Nat→Nat) (fp2:Nat→Option Addr) (fn2 fc2:Nat→Nat) (fF:Nat→Bool) (gblk goff:Nat) (gp2:Nat→Option Addr) (gn2 gc2:Nat→Nat) (gF:Nat→Bool) (eblk eoff:Nat) (ep3:Nat→Option Addr) (en3 ec3:Nat→Nat) (ep4:Nat→Option Addr) (en4 ec4:Nat→Nat) (eF:Nat→Bool) (iblk ioff:Nat→Nat) (bp:Nat→Nat→Option Addr) (bn bc:Nat→Nat→Nat) (bF:Nat→Nat→Bool) (dblk doff:Nat) (dp2:Nat→Option Addr) (dn2 dc2:Nat→Nat) (dp3:Nat→Option Addr) (dn3 dc3:Nat→Nat) (dF:Nat→Bool) (w:World)
  (htl:tn<9223372036854775807) (htg:tn≠0→tp=some ⟨tblk,toff,none⟩∧tblk<w.heap.size)
  (htx:∀i,i<tn→w.cell? ⟨tblk,toff+i*2,none⟩=some (V (tp0 i) (tn0 i) (tc0 i))∧w.cell? ⟨tblk,toff+i*2+1,none⟩=some (V (tp1 i) (tn1 i) (tc1 i)))
  (himl:imn<9223372036854775807) (himg:imn≠0→imp=some ⟨imblk,imoff,none⟩∧imblk<w.heap.size)
  (himx:∀i,i<imn→w.cell? ⟨imblk,imoff+i*13,none⟩=some (Qs (imz0 i))∧w.cell? ⟨imblk,imoff+i*13+1,none⟩=some (Qs (imz1 i)))
  (hxl:xn<9223372036854775807) (hxg:xn≠0→xp=some ⟨xblk,xoff,none⟩∧xblk<w.heap.size)
  (hxx:∀i,i<xn→w.cell? ⟨xblk,xoff+i*3,none⟩=some (Qs (xz0 i)))
  (hfl:fn<9223372036854775807) (hfg:fn≠0→fp=some ⟨fblk,foff,none⟩∧fblk<w.heap.size)
  (hfx:∀i,i<fn→w.cell? ⟨fblk,foff+i*3+1,none⟩=some (V (fp1 i) (fn1 i) (fc1 i))∧w.cell? ⟨fblk,foff+i*3+2,none⟩=some (V (fp2 i) (fn2 i) (fc2 i)))
  (hfF:∀i,i<fn→∀W,Below w.heap.size w W→Calls QP 17 #[V (fp2 i) (fn2 i) (fc2 i)] W fun e w'=>e=Qr (G (fF i))∧W=w')
  (hgl:gn<9223372036854775807) (hgg:gn≠0→gp=some ⟨gblk,goff,none⟩∧gblk<w.heap.size)
  (hgx:∀i,i<gn→w.cell? ⟨gblk,goff+i*3+2,none⟩=some (V (gp2 i) (gn2 i) (gc2 i)))
  (hgF:∀i,i<gn→∀W,Below w.heap.size w W→Calls QP 17 #[V (gp2 i) (gn2 i) (gc2 i)] W fun e w'=>e=Qr (G (gF i))∧W=w')
  (hel:en<9223372036854775807) (heg:en≠0→ep=some ⟨eblk,eoff,none⟩∧eblk<w.heap.size)
  (hex:∀i,i<en→w.cell? ⟨eblk,eoff+i*5+3,none⟩=some (V (ep3 i) (en3 i) (ec3 i))∧w.cell? ⟨eblk,eoff+i*5+4,none⟩=some (V (ep4 i) (en4 i) (ec4 i)))
  (heF:∀i,i<en→∀W,Below w.heap.size w W→Calls QP 17 #[V (ep3 i) (en3 i) (ec3 i)] W fun e w'=>e=Qr (G (eF i))∧W=w')
  (hil:∀i,i<en→en4 i<9223372036854775807) (hig:∀i,i<en→en4 i≠0→ep4 i=some ⟨iblk i,ioff i,none⟩∧iblk i<w.heap.size)
  (hix:∀i,i<en→∀k,k<en4 i→w.cell? ⟨iblk i,ioff i+k,none⟩=some (V (bp i k) (bn i k) (bc i k)))
  (hiF:∀i,i<en→∀k,k<en4 i→∀W,Below w.heap.size w W→Calls QP 17 #[V (bp i k) (bn i k) (bc i k)] W fun e w'=>e=Qr (G (bF i k))∧W=w')
  (hdl:dn<9223372036854775807) (hdg:dn≠0→dp=some ⟨dblk,doff,none⟩∧dblk<w.heap.size)
  (hdx:∀i,i<dn→w.cell? ⟨dblk,doff+i*4+2,none⟩=some (V (dp2 i) (dn2 i) (dc2 i))∧w.cell? ⟨dblk,doff+i*4+3,none⟩=some (V (dp3 i) (dn3 i) (dc3 i)))
  (hdF:∀i,i<dn→∀W,Below w.heap.size w W→Calls QP 17 #[V (dp2 i) (dn2 i) (dc2 i)] W fun e w'=>e=Qr (G (dF i))∧W=w') :
  Calls QP 14 #[.agg #[V tp tn tc,V imp imn imc,V fp fn fc,V tbp tbn tbc,V mp mn mc,V gp gn gc,V xp xn xc,I J st,V ep en ec,V dp dn dc,G cnt]] w fun e w'=>∃b:Bool,e=Qr (G b)∧Below w.heap.size w w'∧(b=true→tn≤100∧imn≤100∧fn≤50∧tbn≤100∧mn≤100∧gn≤50∧xn≤100∧en≤50∧dn≤50∧(∀j,j<tn→tn0 j≤1000∧tn1 j≤1000)∧(∀j,j<imn→(imz0 j).size≤1000∧(imz1 j).size≤1000)∧(∀j,j<xn→(xz0 j).size≤1000)∧(∀j,j<fn→fF j=true∧fn1 j≤60000)∧(∀j,j<gn→gF j=true)∧(∀j,j<en→eF j=true∧en4 j≤100∧∀k,k<en4 j→bF j k=true)∧(∀j,j<dn→dF j=true∧dn3 j≤100000)):=by
 have HtG:=hid htg
 have HtX:=hid htx
 have nt62:(tn:Int)<9223372036854775807:=by omega
 have HimG:=hid himg
 have HimX:=hid himx
 have nim62:(imn:Int)<9223372036854775807:=by omega
 have HxG:=hid hxg
 have HxX:=hid hxx
 have nx62:(xn:Int)<9223372036854775807:=by omega
 have HfG:=hid hfg
 have HfX:=hid hfx
 have nf62:(fn:Int)<9223372036854775807:=by omega
 have HfF:=hid hfF
 have HgG:=hid hgg
 have HgX:=hid hgx
 have ng62:(gn:Int)<9223372036854775807:=by omega
 have HgF:=hid hgF
 have HeG:=hid heg
 have HeX:=hid hex
 have ne62:(en:Int)<9223372036854775807:=by omega
 have HeF:=hid heF
 have HdG:=hid hdg
 have HdX:=hid hdx
 have nd62:(dn:Int)<9223372036854775807:=by omega
 have HdF:=hid hdF
 have HIL:=hid hil
 have HIG:=hid hig
 have HIX:=hid hix
 have HIF:=hid hiF
 obtain ⟨P0,hP0⟩:∃P:Prop,P=(tn≤100∧imn≤100∧fn≤50∧tbn≤100∧mn≤100∧gn≤50∧xn≤100∧en≤50∧dn≤50):=⟨_,rfl⟩
 obtain ⟨Qt,hQt⟩:∃Q:Nat→Prop,Q=(fun j=>tn0 j≤1000∧tn1 j≤1000):=⟨_,rfl⟩
 obtain ⟨P1,hP1⟩:∃P:Prop,P=(P0∧∀j,j<tn→Qt j):=⟨_,rfl⟩
 have HP1:=hid hP1
 have HQt:=hid hQt
 obtain ⟨Qim,hQim⟩:∃Q:Nat→Prop,Q=(fun j=>(imz0 j).size≤1000∧(imz1 j).size≤1000):=⟨_,rfl⟩
 obtain ⟨P2,hP2⟩:∃P:Prop,P=(P1∧∀j,j<imn→Qim j):=⟨_,rfl⟩
 have HP2:=hid hP2
 have HQim:=hid hQim
 obtain ⟨Qx,hQx⟩:∃Q:Nat→Prop,Q=(fun j=>(xz0 j).size≤1000):=⟨_,rfl⟩
 obtain ⟨P3,hP3⟩:∃P:Prop,P=(P2∧∀j,j<xn→Qx j):=⟨_,rfl⟩
 have HP3:=hid hP3
 have HQx:=hid hQx
 obtain ⟨Qf,hQf⟩:∃Q:Nat→Prop,Q=(fun j=>fF j=true∧fn1 j≤60000):=⟨_,rfl⟩
 obtain ⟨P4,hP4⟩:∃P:Prop,P=(P3∧∀j,j<fn→Qf j):=⟨_,rfl⟩
 have HP4:=hid hP4
 have HQf:=hid hQf
 obtain ⟨Qg,hQg⟩:∃Q:Nat→Prop,Q=(fun j=>gF j=true):=⟨_,rfl⟩
 obtain ⟨P5,hP5⟩:∃P:Prop,P=(P4∧∀j,j<gn→Qg j):=⟨_,rfl⟩
 have HP5:=hid hP5
 have HQg:=hid hQg
 obtain ⟨Qe,hQe⟩:∃Q:Nat→Prop,Q=(fun j=>eF j=true∧en4 j≤100∧∀k,k<en4 j→bF j k=true):=⟨_,rfl⟩
 obtain ⟨P6,hP6⟩:∃P:Prop,P=(P5∧∀j,j<en→Qe j):=⟨_,rfl⟩
 have HP6:=hid hP6
 have HQe:=hid hQe
 obtain ⟨Qd,hQd⟩:∃Q:Nat→Prop,Q=(fun j=>dF j=true∧dn3 j≤100000):=⟨_,rfl⟩
 obtain ⟨P7,hP7⟩:∃P:Prop,P=(P6∧∀j,j<dn→Qd j):=⟨_,rfl⟩
 have HP7:=hid hP7
 have HQd:=hid hQd
 have HR:Hid (P7→tn≤100∧imn≤100∧fn≤50∧tbn≤100∧mn≤100∧gn≤50∧xn≤100∧en≤50∧dn≤50∧(∀j,j<tn→tn0 j≤1000∧tn1 j≤1000)∧(∀j,j<imn→(imz0 j).size≤1000∧(imz1 j).size≤1000)∧(∀j,j<xn→(xz0 j).size≤1000)∧(∀j,j<fn→fF j=true∧fn1 j≤60000)∧(∀j,j<gn→gF j=true)∧(∀j,j<en→eF j=true∧en4 j≤100∧∀k,k<en4 j→bF j k=true)∧(∀j,j<dn→dF j=true∧dn3 j≤100000)):=by
  simp only[Hid,hP7,hP6,hP5,hP4,hP3,hP2,hP1,hP0,hQt,hQim,hQx,hQf,hQg,hQe,hQd]
  rintro ⟨⟨⟨⟨⟨⟨⟨⟨a0,a1,a2,a3,a4,a5,a6,a7,a8⟩,b0⟩,b1⟩,b2⟩,b3⟩,b4⟩,b5⟩,b6⟩
  exact ⟨a0,a1,a2,a3,a4,a5,a6,a7,a8,b0,b1,b2,b3,b4,b5,b6⟩
 have HP0:=hid hP0
 have HX:=hid (CA.new w #[V tp tn tc,V imp imn imc,V fp fn fc,V tbp tbn tbc,V mp mn mc,V gp gn gc,V xp xn xc,I J st,V ep en ec,V dp dn dc,G cnt] 32)
 have HB:=hid ((QB w.heap.size w).alloc (Ql _) (Qc #[V tp tn tc,V imp imn imc,V fp fn fc,V tbp tbn tbc,V mp mn mc,V gp gn gc,V xp xn xc,I J st,V ep en ec,V dp dn dc,G cnt] 32))
 clear htg htx htl himg himx himl hxg hxx hxl hfg hfx hfl hfF hgg hgx hgl hgF heg hex hel heF hdg hdx hdl hdF hil hig hix hiF hP0 hP1 hP2 hP3 hP4 hP5 hP6 hP7 hQt hQim hQx hQf hQg hQe hQd
 go_enter Tryz.func14,Tryz.ntmps14
 go_upto_region 1 with fail
 go_cut [3] (fun s wx=>(∃b:Bool,s=G b∧Hid (b=true→P0))∧w.alloc (Qc #[V tp tn tc,V imp imn imc,V fp fn fc,V tbp tbn tbc,V mp mn mc,V gp gn gc,V xp xn xc,I J st,V ep en ec,V dp dn dc,G cnt] 32)=wx)
 case first=>as_aux_lemma =>
  have y0:=HX.out.at (k:=0) (v:=V tp tn tc) rfl
  have y1:=HX.out.at (k:=1) (v:=V imp imn imc) rfl
  have y2:=HX.out.at (k:=2) (v:=V fp fn fc) rfl
  have y3:=HX.out.at (k:=3) (v:=V tbp tbn tbc) rfl
  have y4:=HX.out.at (k:=4) (v:=V mp mn mc) rfl
  have y5:=HX.out.at (k:=5) (v:=V gp gn gc) rfl
  have y6:=HX.out.at (k:=6) (v:=V xp xn xc) rfl
  have y8:=HX.out.at (k:=8) (v:=V ep en ec) rfl
  have y9:=HX.out.at (k:=9) (v:=V dp dn dc) rfl
  by_cases c0:(tn:Int)≤100
  ·have d0:decide ((tn:Int)≤100)=true:=by simpa using c0
   by_cases c1:(imn:Int)≤100
   ·have d1:decide ((imn:Int)≤100)=true:=by simpa using c1
    by_cases c2:(fn:Int)≤50
    ·have d2:decide ((fn:Int)≤50)=true:=by simpa using c2
     by_cases c3:(tbn:Int)≤100
     ·have d3:decide ((tbn:Int)≤100)=true:=by simpa using c3
      by_cases c4:(mn:Int)≤100
      ·have d4:decide ((mn:Int)≤100)=true:=by simpa using c4
       by_cases c5:(gn:Int)≤50
       ·have d5:decide ((gn:Int)≤50)=true:=by simpa using c5
        by_cases c6:(xn:Int)≤100
        ·have d6:decide ((xn:Int)≤100)=true:=by simpa using c6
         by_cases c7:(en:Int)≤50
         ·have d7:decide ((en:Int)≤50)=true:=by simpa using c7
          by_cases c8:(dn:Int)≤50
          ·have d8:decide ((dn:Int)≤50)=true:=by simpa using c8
           have hh:Hid P0:=by
            show P0
            rw[HP0.out]
            exact ⟨by omega,by omega,by omega,by omega,by omega,by omega,by omega,by omega,by omega⟩
           clear c0 c1 c2 c3 c4 c5 c6 c7 c8
           go_wp2
           go_meet
           exact ⟨⟨_,rfl,hid (fun _=>hh.out)⟩,rfl⟩
          have d8:decide ((dn:Int)≤50)=false:=by simpa using c8
          clear c0 c1 c2 c3 c4 c5 c6 c7 c8
          go_wp2
          go_meet
          exact ⟨⟨_,rfl,hid (fun h=>by cases h)⟩,rfl⟩
         have d7:decide ((en:Int)≤50)=false:=by simpa using c7
         clear c0 c1 c2 c3 c4 c5 c6 c7
         go_wp2
         go_meet
         exact ⟨⟨_,rfl,hid (fun h=>by cases h)⟩,rfl⟩
        have d6:decide ((xn:Int)≤100)=false:=by simpa using c6
        clear c0 c1 c2 c3 c4 c5 c6
        go_wp2
        go_meet
        exact ⟨⟨_,rfl,hid (fun h=>by cases h)⟩,rfl⟩
       have d5:decide ((gn:Int)≤50)=false:=by simpa using c5
       clear c0 c1 c2 c3 c4 c5
       go_wp2
       go_meet
       exact ⟨⟨_,rfl,hid (fun h=>by cases h)⟩,rfl⟩
      have d4:decide ((mn:Int)≤100)=false:=by simpa using c4
      clear c0 c1 c2 c3 c4
      go_wp2
      go_meet
      exact ⟨⟨_,rfl,hid (fun h=>by cases h)⟩,rfl⟩
     have d3:decide ((tbn:Int)≤100)=false:=by simpa using c3
     clear c0 c1 c2 c3
     go_wp2
     go_meet
     exact ⟨⟨_,rfl,hid (fun h=>by cases h)⟩,rfl⟩
    have d2:decide ((fn:Int)≤50)=false:=by simpa using c2
    clear c0 c1 c2
    go_wp2
    go_meet
    exact ⟨⟨_,rfl,hid (fun h=>by cases h)⟩,rfl⟩
   have d1:decide ((imn:Int)≤100)=false:=by simpa using c1
   clear c0 c1
   go_wp2
   go_meet
   exact ⟨⟨_,rfl,hid (fun h=>by cases h)⟩,rfl⟩
  have d0:decide ((tn:Int)≤100)=false:=by simpa using c0
  clear c0
  go_wp2
  go_meet
  exact ⟨⟨_,rfl,hid (fun h=>by cases h)⟩,rfl⟩
 obtain ⟨⟨ok0,rfl,HK0⟩,rfl⟩:=hcut
 generalize w.alloc (Qc #[V tp tn tc,V imp imn imc,V fp fn fc,V tbp tbn tbc,V mp mn mc,V gp gn gc,V xp xn xc,I J st,V ep en ec,V dp dn dc,G cnt] 32)=W0 at *
 go_upto_block 0 with fail
 go_cut [3] (fun s wx=>(∃b:Bool,s=G b∧Hid (b=true→P1))∧W0=wx)
 case first=>as_aux_lemma =>
  have y0:=HX.out.at (k:=0) (v:=V tp tn tc) rfl
  go_wp2
  go_loop [3,4] (fun vo vi=>∃(i:Nat) (ok:Bool),i≤tn∧vi=I J i∧vo=G ok∧Hid (ok=true→P0∧∀j,j<i→Qt j)) (fun _ vi=>tn-(intOf vi).toNat)
  case atStart=>exact ⟨0,ok0,Qz _,rfl,rfl,hid (fun h=>⟨HK0.out h,fun j hj=>absurd hj (Nat.not_lt_zero j)⟩)⟩
  obtain ⟨i,ok,hi,rfl,rfl,HK⟩:=hrel
  cases ok with
  |false =>
   by_cases hlt:i<tn
   ·clear hi
    go_wp2
    go_meet
    exact ⟨⟨_,rfl,hid (fun h=>by cases h)⟩,rfl⟩
   ·have hie:tn=i:=by omega
    subst hie
    go_wp2
    go_meet
    exact ⟨⟨_,rfl,hid (fun h=>by cases h)⟩,rfl⟩
  |true =>
   replace HK:=hid (HK.out rfl)
   by_cases hlt:i<tn
   ·as_aux_lemma =>
     obtain ⟨hpe,hg⟩:=HtG.out (by omega)
     subst hpe
     obtain ⟨z0,z1⟩:=HtX.out i hlt
     have x0:=(HB.out.cell (p:=⟨tblk,toff+i*2,none⟩) hg).trans z0
     have x1:=(HB.out.cell (p:=⟨tblk,toff+i*2+1,none⟩) hg).trans z1
     clear z0 z1
     have HQI:=hid (show Qt i=(tn0 i≤1000∧tn1 i≤1000) by rw[HQt.out])
     generalize tp0 i=q0 at *
     generalize tn0 i=m0 at *
     generalize tc0 i=d0 at *
     generalize tp1 i=q1 at *
     generalize tn1 i=m1 at *
     generalize tc1 i=d1 at *
     by_cases c_d0:(m0:Int)≤1000
     ·have d0:decide ((m0:Int)≤1000)=true:=by simpa using c_d0
      by_cases c_d1:(m1:Int)≤1000
      ·have d1:decide ((m1:Int)≤1000)=true:=by simpa using c_d1
       go_wp2
       go_round
       case rel=>exact ⟨i+1,_,hlt,by go_num,rfl,hid (fun _=>⟨(HK.out).1,fun j hj=>by rcases Nat.lt_succ_iff_lt_or_eq.1 hj with h|h;exact (HK.out).2 j h;subst h;rw[HQI.out];exact ⟨by omega,by omega⟩⟩)⟩
       case measure=>simp[intOf];omega
      have d1:decide ((m1:Int)≤1000)=false:=by simpa using c_d1
      go_wp2
      go_round
      case rel=>exact ⟨i+1,_,hlt,by go_num,rfl,hid (fun h=>by cases h)⟩
      case measure=>simp[intOf];omega
     have d0:decide ((m0:Int)≤1000)=false:=by simpa using c_d0
     go_wp2
     go_round
     case rel=>exact ⟨i+1,_,hlt,by go_num,rfl,hid (fun h=>by cases h)⟩
     case measure=>simp[intOf];omega
   have hie:tn=i:=by omega
   subst hie
   have HE:Hid P1:=by show P1;rw[HP1.out];exact HK.out
   go_wp2
   go_meet
   exact ⟨⟨_,rfl,hid (fun _=>HE.out)⟩,rfl⟩
 obtain ⟨⟨ok1,rfl,HK1⟩,rfl⟩:=hcut
 go_upto_block 2 with fail
 go_cut [3] (fun s wx=>(∃b:Bool,s=G b∧Hid (b=true→P2))∧W0=wx)
 case first=>as_aux_lemma =>
  have y1:=HX.out.at (k:=1) (v:=V imp imn imc) rfl
  go_wp2
  go_loop [3,5] (fun vo vi=>∃(i:Nat) (ok:Bool),i≤imn∧vi=I J i∧vo=G ok∧Hid (ok=true→P1∧∀j,j<i→Qim j)) (fun _ vi=>imn-(intOf vi).toNat)
  case atStart=>exact ⟨0,ok1,Qz _,rfl,rfl,hid (fun h=>⟨HK1.out h,fun j hj=>absurd hj (Nat.not_lt_zero j)⟩)⟩
  obtain ⟨i,ok,hi,rfl,rfl,HK⟩:=hrel
  cases ok with
  |false =>
   by_cases hlt:i<imn
   ·clear hi
    go_wp2
    go_meet
    exact ⟨⟨_,rfl,hid (fun h=>by cases h)⟩,rfl⟩
   ·have hie:imn=i:=by omega
    subst hie
    go_wp2
    go_meet
    exact ⟨⟨_,rfl,hid (fun h=>by cases h)⟩,rfl⟩
  |true =>
   replace HK:=hid (HK.out rfl)
   by_cases hlt:i<imn
   ·as_aux_lemma =>
     obtain ⟨hpe,hg⟩:=HimG.out (by omega)
     subst hpe
     obtain ⟨z0,z1⟩:=HimX.out i hlt
     have x0:=(HB.out.cell (p:=⟨imblk,imoff+i*13,none⟩) hg).trans z0
     have x1:=(HB.out.cell (p:=⟨imblk,imoff+i*13+1,none⟩) hg).trans z1
     clear z0 z1
     have HQI:=hid (show Qim i=((imz0 i).size≤1000∧(imz1 i).size≤1000) by rw[HQim.out])
     generalize imz0 i=s0 at *
     generalize imz1 i=s1 at *
     by_cases c_d0:(s0.size:Int)≤1000
     ·have d0:decide ((s0.size:Int)≤1000)=true:=by simpa using c_d0
      by_cases c_d1:(s1.size:Int)≤1000
      ·have d1:decide ((s1.size:Int)≤1000)=true:=by simpa using c_d1
       go_wp2
       go_round
       case rel=>exact ⟨i+1,_,hlt,by go_num,rfl,hid (fun _=>⟨(HK.out).1,fun j hj=>by rcases Nat.lt_succ_iff_lt_or_eq.1 hj with h|h;exact (HK.out).2 j h;subst h;rw[HQI.out];exact ⟨by omega,by omega⟩⟩)⟩
       case measure=>simp[intOf];omega
      have d1:decide ((s1.size:Int)≤1000)=false:=by simpa using c_d1
      go_wp2
      go_round
      case rel=>exact ⟨i+1,_,hlt,by go_num,rfl,hid (fun h=>by cases h)⟩
      case measure=>simp[intOf];omega
     have d0:decide ((s0.size:Int)≤1000)=false:=by simpa using c_d0
     go_wp2
     go_round
     case rel=>exact ⟨i+1,_,hlt,by go_num,rfl,hid (fun h=>by cases h)⟩
     case measure=>simp[intOf];omega
   have hie:imn=i:=by omega
   subst hie
   have HE:Hid P2:=by show P2;rw[HP2.out];exact HK.out
   go_wp2
   go_meet
   exact ⟨⟨_,rfl,hid (fun _=>HE.out)⟩,rfl⟩
 obtain ⟨⟨ok2,rfl,HK2⟩,rfl⟩:=hcut
 go_upto_block 4 with fail
 go_cut [3] (fun s wx=>(∃b:Bool,s=G b∧Hid (b=true→P3))∧W0=wx)
 case first=>as_aux_lemma =>
  have y6:=HX.out.at (k:=6) (v:=V xp xn xc) rfl
  go_wp2
  go_loop [3,6] (fun vo vi=>∃(i:Nat) (ok:Bool),i≤xn∧vi=I J i∧vo=G ok∧Hid (ok=true→P2∧∀j,j<i→Qx j)) (fun _ vi=>xn-(intOf vi).toNat)
  case atStart=>exact ⟨0,ok2,Qz _,rfl,rfl,hid (fun h=>⟨HK2.out h,fun j hj=>absurd hj (Nat.not_lt_zero j)⟩)⟩
  obtain ⟨i,ok,hi,rfl,rfl,HK⟩:=hrel
  cases ok with
  |false =>
   by_cases hlt:i<xn
   ·clear hi
    go_wp2
    go_meet
    exact ⟨⟨_,rfl,hid (fun h=>by cases h)⟩,rfl⟩
   ·have hie:xn=i:=by omega
    subst hie
    go_wp2
    go_meet
    exact ⟨⟨_,rfl,hid (fun h=>by cases h)⟩,rfl⟩
  |true =>
   replace HK:=hid (HK.out rfl)
   by_cases hlt:i<xn
   ·as_aux_lemma =>
     obtain ⟨hpe,hg⟩:=HxG.out (by omega)
     subst hpe
     have z0:=HxX.out i hlt
     have x0:=(HB.out.cell (p:=⟨xblk,xoff+i*3,none⟩) hg).trans z0
     clear z0
     have HQI:=hid (show Qx i=((xz0 i).size≤1000) by rw[HQx.out])
     generalize xz0 i=s0 at *
     by_cases c_d0:(s0.size:Int)≤1000
     ·have d0:decide ((s0.size:Int)≤1000)=true:=by simpa using c_d0
      go_wp2
      go_round
      case rel=>exact ⟨i+1,_,hlt,by go_num,rfl,hid (fun _=>⟨(HK.out).1,fun j hj=>by rcases Nat.lt_succ_iff_lt_or_eq.1 hj with h|h;exact (HK.out).2 j h;subst h;rw[HQI.out];exact (by omega)⟩)⟩
      case measure=>simp[intOf];omega
     have d0:decide ((s0.size:Int)≤1000)=false:=by simpa using c_d0
     go_wp2
     go_round
     case rel=>exact ⟨i+1,_,hlt,by go_num,rfl,hid (fun h=>by cases h)⟩
     case measure=>simp[intOf];omega
   have hie:xn=i:=by omega
   subst hie
   have HE:Hid P3:=by show P3;rw[HP3.out];exact HK.out
   go_wp2
   go_meet
   exact ⟨⟨_,rfl,hid (fun _=>HE.out)⟩,rfl⟩
 obtain ⟨⟨ok3,rfl,HK3⟩,rfl⟩:=hcut
 go_upto_block 6 with fail
 go_cut [3] (fun s wx=>(∃b:Bool,s=G b∧Hid (b=true→P4))∧W0=wx)
 case first=>as_aux_lemma =>
  have y2:=HX.out.at (k:=2) (v:=V fp fn fc) rfl
  go_wp2
  go_loop [3,7] (fun vo vi=>∃(i:Nat) (ok:Bool),i≤fn∧vi=I J i∧vo=G ok∧Hid (ok=true→P3∧∀j,j<i→Qf j)) (fun _ vi=>fn-(intOf vi).toNat)
  case atStart=>exact ⟨0,ok3,Qz _,rfl,rfl,hid (fun h=>⟨HK3.out h,fun j hj=>absurd hj (Nat.not_lt_zero j)⟩)⟩
  obtain ⟨i,ok,hi,rfl,rfl,HK⟩:=hrel
  cases ok with
  |false =>
   by_cases hlt:i<fn
   ·clear hi
    go_wp2
    go_meet
    exact ⟨⟨_,rfl,hid (fun h=>by cases h)⟩,rfl⟩
   ·have hie:fn=i:=by omega
    subst hie
    go_wp2
    go_meet
    exact ⟨⟨_,rfl,hid (fun h=>by cases h)⟩,rfl⟩
  |true =>
   replace HK:=hid (HK.out rfl)
   by_cases hlt:i<fn
   ·as_aux_lemma =>
     obtain ⟨hpe,hg⟩:=HfG.out (by omega)
     subst hpe
     obtain ⟨z1,z2⟩:=HfX.out i hlt
     have x1:=(HB.out.cell (p:=⟨fblk,foff+i*3+1,none⟩) hg).trans z1
     have x2:=(HB.out.cell (p:=⟨fblk,foff+i*3+2,none⟩) hg).trans z2
     clear z1 z2
     have KF:=hid (HfF.out i hlt W0 HB.out)
     have HQI:=hid (show Qf i=(fF i=true∧fn1 i≤60000) by rw[HQf.out])
     generalize fF i=bf at *
     generalize fp1 i=q1 at *
     generalize fn1 i=m1 at *
     generalize fc1 i=d1 at *
     generalize fp2 i=q2 at *
     generalize fn2 i=m2 at *
     generalize fc2 i=d2 at *
     cases bf with
     |false =>
      go_wp2_with (go_at_call 17;(with_reducible refine KF.out.mono ?_);rintro e w1 ⟨rfl,rfl⟩)
      go_round
      case rel=>exact ⟨i+1,_,hlt,by go_num,rfl,hid (fun h=>by cases h)⟩
      case measure=>simp[intOf];omega
     |true =>
      by_cases c_d0:(m1:Int)≤60000
      ·have d0:decide ((m1:Int)≤60000)=true:=by simpa using c_d0
       go_wp2_with (go_at_call 17;(with_reducible refine KF.out.mono ?_);rintro e w1 ⟨rfl,rfl⟩)
       go_round
       case rel=>exact ⟨i+1,_,hlt,by go_num,rfl,hid (fun _=>⟨(HK.out).1,fun j hj=>by rcases Nat.lt_succ_iff_lt_or_eq.1 hj with h|h;exact (HK.out).2 j h;subst h;rw[HQI.out];exact ⟨(by first|trivial|rfl),by omega⟩⟩)⟩
       case measure=>simp[intOf];omega
      have d0:decide ((m1:Int)≤60000)=false:=by simpa using c_d0
      go_wp2_with (go_at_call 17;(with_reducible refine KF.out.mono ?_);rintro e w1 ⟨rfl,rfl⟩)
      go_round
      case rel=>exact ⟨i+1,_,hlt,by go_num,rfl,hid (fun h=>by cases h)⟩
      case measure=>simp[intOf];omega
   have hie:fn=i:=by omega
   subst hie
   have HE:Hid P4:=by show P4;rw[HP4.out];exact HK.out
   go_wp2
   go_meet
   exact ⟨⟨_,rfl,hid (fun _=>HE.out)⟩,rfl⟩
 obtain ⟨⟨ok4,rfl,HK4⟩,rfl⟩:=hcut
 go_upto_block 8 with fail
 go_cut [3] (fun s wx=>(∃b:Bool,s=G b∧Hid (b=true→P5))∧W0=wx)
 case first=>as_aux_lemma =>
  have y5:=HX.out.at (k:=5) (v:=V gp gn gc) rfl
  go_wp2
  go_loop [3,8] (fun vo vi=>∃(i:Nat) (ok:Bool),i≤gn∧vi=I J i∧vo=G ok∧Hid (ok=true→P4∧∀j,j<i→Qg j)) (fun _ vi=>gn-(intOf vi).toNat)
  case atStart=>exact ⟨0,ok4,Qz _,rfl,rfl,hid (fun h=>⟨HK4.out h,fun j hj=>absurd hj (Nat.not_lt_zero j)⟩)⟩
  obtain ⟨i,ok,hi,rfl,rfl,HK⟩:=hrel
  cases ok with
  |false =>
   by_cases hlt:i<gn
   ·clear hi
    go_wp2
    go_meet
    exact ⟨⟨_,rfl,hid (fun h=>by cases h)⟩,rfl⟩
   ·have hie:gn=i:=by omega
    subst hie
    go_wp2
    go_meet
    exact ⟨⟨_,rfl,hid (fun h=>by cases h)⟩,rfl⟩
  |true =>
   replace HK:=hid (HK.out rfl)
   by_cases hlt:i<gn
   ·as_aux_lemma =>
     obtain ⟨hpe,hg⟩:=HgG.out (by omega)
     subst hpe
     have z2:=HgX.out i hlt
     have x2:=(HB.out.cell (p:=⟨gblk,goff+i*3+2,none⟩) hg).trans z2
     clear z2
     have KF:=hid (HgF.out i hlt W0 HB.out)
     have HQI:=hid (show Qg i=(gF i=true) by rw[HQg.out])
     generalize gF i=bf at *
     generalize gp2 i=q2 at *
     generalize gn2 i=m2 at *
     generalize gc2 i=d2 at *
     cases bf with
     |false =>
      go_wp2_with (go_at_call 17;(with_reducible refine KF.out.mono ?_);rintro e w1 ⟨rfl,rfl⟩)
      go_round
      case rel=>exact ⟨i+1,_,hlt,by go_num,rfl,hid (fun h=>by cases h)⟩
      case measure=>simp[intOf];omega
     |true =>
      go_wp2_with (go_at_call 17;(with_reducible refine KF.out.mono ?_);rintro e w1 ⟨rfl,rfl⟩)
      go_round
      case rel=>exact ⟨i+1,_,hlt,by go_num,rfl,hid (fun _=>⟨(HK.out).1,fun j hj=>by rcases Nat.lt_succ_iff_lt_or_eq.1 hj with h|h;exact (HK.out).2 j h;subst h;rw[HQI.out];exact (by first|trivial|rfl)⟩)⟩
      case measure=>simp[intOf];omega
   have hie:gn=i:=by omega
   subst hie
   have HE:Hid P5:=by show P5;rw[HP5.out];exact HK.out
   go_wp2
   go_meet
   exact ⟨⟨_,rfl,hid (fun _=>HE.out)⟩,rfl⟩
 obtain ⟨⟨ok5,rfl,HK5⟩,rfl⟩:=hcut
 go_upto_block 10 with fail
 go_cut [3] (fun s wx=>(∃b:Bool,s=G b∧Hid (b=true→P6))∧W0=wx)
 case first=>as_aux_lemma =>
  have y8:=HX.out.at (k:=8) (v:=V ep en ec) rfl
  go_wp2
  go_loop [3,9] (fun vo vi=>∃(i:Nat) (ok:Bool),i≤en∧vi=I J i∧vo=G ok∧Hid (ok=true→P5∧∀j,j<i→Qe j)) (fun _ vi=>en-(intOf vi).toNat)
  case atStart=>exact ⟨0,ok5,Qz _,rfl,rfl,hid (fun h=>⟨HK5.out h,fun j hj=>absurd hj (Nat.not_lt_zero j)⟩)⟩
  obtain ⟨i,ok,hi,rfl,rfl,HK⟩:=hrel
  cases ok with
  |false =>
   by_cases hlt:i<en
   ·clear hi
    go_wp2
    go_meet
    exact ⟨⟨_,rfl,hid (fun h=>by cases h)⟩,rfl⟩
   ·have hie:en=i:=by omega
    subst hie
    go_wp2
    go_meet
    exact ⟨⟨_,rfl,hid (fun h=>by cases h)⟩,rfl⟩
  |true =>
   replace HK:=hid (HK.out rfl)
   by_cases hlt:i<en
   ·as_aux_lemma =>
     obtain ⟨hpe,hg⟩:=HeG.out (by omega)
     subst hpe
     obtain ⟨z3,z4⟩:=HeX.out i hlt
     have x3:=(HB.out.cell (p:=⟨eblk,eoff+i*5+3,none⟩) hg).trans z3
     have x4:=(HB.out.cell (p:=⟨eblk,eoff+i*5+4,none⟩) hg).trans z4
     clear z3 z4
     have KF:=hid (HeF.out i hlt W0 HB.out)
     have HQI:=hid (show Qe i=(eF i=true∧en4 i≤100∧∀k,k<en4 i→bF i k=true) by rw[HQe.out])
     have KL:=HIL.out i hlt
     have KG:=hid (HIG.out i hlt)
     have KX:=hid (HIX.out i hlt)
     have KF2:=hid (HIF.out i hlt)
     generalize eF i=bf at *
     generalize ep3 i=q3 at *
     generalize en3 i=m3 at *
     generalize ec3 i=d3 at *
     generalize ep4 i=q4 at *
     generalize en4 i=m4 at *
     generalize ec4 i=d4 at *
     generalize iblk i=kb at *
     generalize ioff i=ko at *
     generalize bp i=b3 at *
     generalize bn i=b4 at *
     generalize bc i=b5 at *
     generalize bF i=b6 at *
     have n462:(m4:Int)<9223372036854775807:=by omega
     cases bf with
     |false =>
      go_wp2_with (go_at_call 17;(with_reducible refine KF.out.mono ?_);rintro e w1 ⟨rfl,rfl⟩)
      go_loop [3,10] (fun vo vk=>∃(k:Nat) (o2:Bool),k≤m4∧vk=I J k∧vo=G o2∧Hid (o2=true→False)) (fun _ vk=>m4-(intOf vk).toNat)
      case atStart=>exact ⟨0,_,Qz _,rfl,rfl,hid (fun h=>by cases h)⟩
      case round =>
       obtain ⟨k,o2,hk,rfl,rfl,HK2⟩:=hrel
       cases o2 with
       |false =>
        by_cases hlk:k<m4
        ·clear hk
         go_wp2
         go_round
         case rel=>exact ⟨i+1,_,hlt,by go_num,rfl,hid (fun h=>by cases h)⟩
         case measure=>simp[intOf];omega
        ·have hke:m4=k:=by omega
         subst hke
         go_wp2
         go_round
         case rel=>exact ⟨i+1,_,hlt,by go_num,rfl,hid (fun h=>by cases h)⟩
         case measure=>simp[intOf];omega
       |true=>exact (HK2.out rfl).elim
     |true =>
      by_cases c_d0:(m4:Int)≤100
      ·have d0:decide ((m4:Int)≤100)=true:=by simpa using c_d0
       have HA:Hid (m4≤100):=hid (by omega)
       go_wp2_with (go_at_call 17;(with_reducible refine KF.out.mono ?_);rintro e w1 ⟨rfl,rfl⟩)
       go_loop [3,10] (fun vo vk=>∃(k:Nat) (o2:Bool),k≤m4∧vk=I J k∧vo=G o2∧Hid (o2=true→m4≤100∧∀j,j<k→b6 j=true)) (fun _ vk=>m4-(intOf vk).toNat)
       case atStart=>exact ⟨0,_,Qz _,rfl,rfl,hid (fun _=>⟨HA.out,fun j hj=>absurd hj (Nat.not_lt_zero j)⟩)⟩
       obtain ⟨k,o2,hk,rfl,rfl,HK2⟩:=hrel
       cases o2 with
       |false =>
        by_cases hlk:k<m4
        ·clear hk
         go_wp2
         go_round
         case rel=>exact ⟨i+1,_,hlt,by go_num,rfl,hid (fun h=>by cases h)⟩
         case measure=>simp[intOf];omega
        ·have hke:m4=k:=by omega
         subst hke
         go_wp2
         go_round
         case rel=>exact ⟨i+1,_,hlt,by go_num,rfl,hid (fun h=>by cases h)⟩
         case measure=>simp[intOf];omega
       |true =>
        replace HK2:=hid (HK2.out rfl)
        by_cases hlk:k<m4
        ·as_aux_lemma =>
          obtain ⟨hqe,hg2⟩:=KG.out (by omega)
          subst hqe
          have x5:=(HB.out.cell (p:=⟨kb,ko+k,none⟩) hg2).trans (KX.out k hlk)
          have KF3:=hid (KF2.out k hlk W0 HB.out)
          obtain ⟨b7,hb7⟩:∃b,b=b6 k:=⟨_,rfl⟩
          rw[←hb7]at KF3
          have HB7:=hid hb7.symm
          clear hb7
          cases b7 with
          |false =>
           go_wp2_with (go_at_call 17;(with_reducible refine KF3.out.mono ?_);rintro e w2 ⟨rfl,rfl⟩)
           go_round
           case rel=>exact ⟨k+1,_,hlk,by go_num,rfl,hid (fun h=>by cases h)⟩
           case measure=>simp[intOf];omega
          |true =>
           replace HB7:Hid (b6 k=true):=HB7
           go_wp2_with (go_at_call 17;(with_reducible refine KF3.out.mono ?_);rintro e w2 ⟨rfl,rfl⟩)
           go_round
           case rel=>exact ⟨k+1,_,hlk,by go_num,rfl,hid (fun _=>⟨HK2.out.1,fun j hj=>by rcases Nat.lt_succ_iff_lt_or_eq.1 hj with h|h;exact HK2.out.2 j h;subst h;exact HB7.out⟩)⟩
           case measure=>simp[intOf];omega
        have hke:m4=k:=by omega
        subst hke
        go_wp2
        go_round
        case rel=>exact ⟨i+1,_,hlt,by go_num,rfl,hid (fun _=>⟨(HK.out).1,fun j hj=>by rcases Nat.lt_succ_iff_lt_or_eq.1 hj with h|h;exact (HK.out).2 j h;subst h;rw[HQI.out];exact ⟨(by first|trivial|rfl),HK2.out.1,HK2.out.2⟩⟩)⟩
        case measure=>simp[intOf];omega
      have d0:decide ((m4:Int)≤100)=false:=by simpa using c_d0
      go_wp2_with (go_at_call 17;(with_reducible refine KF.out.mono ?_);rintro e w1 ⟨rfl,rfl⟩)
      go_loop [3,10] (fun vo vk=>∃(k:Nat) (o2:Bool),k≤m4∧vk=I J k∧vo=G o2∧Hid (o2=true→False)) (fun _ vk=>m4-(intOf vk).toNat)
      case atStart=>exact ⟨0,_,Qz _,rfl,rfl,hid (fun h=>by cases h)⟩
      obtain ⟨k,o2,hk,rfl,rfl,HK2⟩:=hrel
      cases o2 with
      |false =>
       by_cases hlk:k<m4
       ·clear hk
        go_wp2
        go_round
        case rel=>exact ⟨i+1,_,hlt,by go_num,rfl,hid (fun h=>by cases h)⟩
        case measure=>simp[intOf];omega
       ·have hke:m4=k:=by omega
        subst hke
        go_wp2
        go_round
        case rel=>exact ⟨i+1,_,hlt,by go_num,rfl,hid (fun h=>by cases h)⟩
        case measure=>simp[intOf];omega
      |true=>exact (HK2.out rfl).elim
   have hie:en=i:=by omega
   subst hie
   have HE:Hid P6:=by show P6;rw[HP6.out];exact HK.out
   go_wp2
   go_meet
   exact ⟨⟨_,rfl,hid (fun _=>HE.out)⟩,rfl⟩
 obtain ⟨⟨ok6,rfl,HK6⟩,rfl⟩:=hcut
 go_upto_block 14 with fail
 go_cut [3] (fun s wx=>(∃b:Bool,s=G b∧Hid (b=true→P7))∧W0=wx)
 case first=>as_aux_lemma =>
  have y9:=HX.out.at (k:=9) (v:=V dp dn dc) rfl
  go_wp2
  go_loop [3,11] (fun vo vi=>∃(i:Nat) (ok:Bool),i≤dn∧vi=I J i∧vo=G ok∧Hid (ok=true→P6∧∀j,j<i→Qd j)) (fun _ vi=>dn-(intOf vi).toNat)
  case atStart=>exact ⟨0,ok6,Qz _,rfl,rfl,hid (fun h=>⟨HK6.out h,fun j hj=>absurd hj (Nat.not_lt_zero j)⟩)⟩
  obtain ⟨i,ok,hi,rfl,rfl,HK⟩:=hrel
  cases ok with
  |false =>
   by_cases hlt:i<dn
   ·clear hi
    go_wp2
    go_meet
    exact ⟨⟨_,rfl,hid (fun h=>by cases h)⟩,rfl⟩
   ·have hie:dn=i:=by omega
    subst hie
    go_wp2
    go_meet
    exact ⟨⟨_,rfl,hid (fun h=>by cases h)⟩,rfl⟩
  |true =>
   replace HK:=hid (HK.out rfl)
   by_cases hlt:i<dn
   ·as_aux_lemma =>
     obtain ⟨hpe,hg⟩:=HdG.out (by omega)
     subst hpe
     obtain ⟨z2,z3⟩:=HdX.out i hlt
     have x2:=(HB.out.cell (p:=⟨dblk,doff+i*4+2,none⟩) hg).trans z2
     have x3:=(HB.out.cell (p:=⟨dblk,doff+i*4+3,none⟩) hg).trans z3
     clear z2 z3
     have KF:=hid (HdF.out i hlt W0 HB.out)
     have HQI:=hid (show Qd i=(dF i=true∧dn3 i≤100000) by rw[HQd.out])
     generalize dF i=bf at *
     generalize dp2 i=q2 at *
     generalize dn2 i=m2 at *
     generalize dc2 i=d2 at *
     generalize dp3 i=q3 at *
     generalize dn3 i=m3 at *
     generalize dc3 i=d3 at *
     cases bf with
     |false =>
      go_wp2_with (go_at_call 17;(with_reducible refine KF.out.mono ?_);rintro e w1 ⟨rfl,rfl⟩)
      go_round
      case rel=>exact ⟨i+1,_,hlt,by go_num,rfl,hid (fun h=>by cases h)⟩
      case measure=>simp[intOf];omega
     |true =>
      by_cases c_d0:(m3:Int)≤100000
      ·have d0:decide ((m3:Int)≤100000)=true:=by simpa using c_d0
       go_wp2_with (go_at_call 17;(with_reducible refine KF.out.mono ?_);rintro e w1 ⟨rfl,rfl⟩)
       go_round
       case rel=>exact ⟨i+1,_,hlt,by go_num,rfl,hid (fun _=>⟨(HK.out).1,fun j hj=>by rcases Nat.lt_succ_iff_lt_or_eq.1 hj with h|h;exact (HK.out).2 j h;subst h;rw[HQI.out];exact ⟨(by first|trivial|rfl),by omega⟩⟩)⟩
       case measure=>simp[intOf];omega
      have d0:decide ((m3:Int)≤100000)=false:=by simpa using c_d0
      go_wp2_with (go_at_call 17;(with_reducible refine KF.out.mono ?_);rintro e w1 ⟨rfl,rfl⟩)
      go_round
      case rel=>exact ⟨i+1,_,hlt,by go_num,rfl,hid (fun h=>by cases h)⟩
      case measure=>simp[intOf];omega
   have hie:dn=i:=by omega
   subst hie
   have HE:Hid P7:=by show P7;rw[HP7.out];exact HK.out
   go_wp2
   go_meet
   exact ⟨⟨_,rfl,hid (fun _=>HE.out)⟩,rfl⟩
 obtain ⟨⟨ok7,rfl,HK7⟩,rfl⟩:=hcut
 go_wp2
 go_ret
 exact ⟨_,rfl,HB.out,fun h=>HR.out (HK7.out h)⟩
theorem fewC {w W:World} {p:Option Addr} {c:Nat} {f:Fo} (h:CO w.heap.size w p c f) (hW:Below w.heap.size w W):Calls QP 17 #[V p f.len c] W fun e w'=>e=Qr (G (decide (0≤wg f 0 3000)))∧W=w' :=
 Few_says f _ W h.2.2.1 h.2.1 (SA.mono (h.below hW).1 hW.size)
theorem Fits_M {M:MD} {w:World} (h:M.ok w.heap.size w):Calls QP 14 #[M.val] w fun e w'=>∃b:Bool,e=Qr (G b)∧Below w.heap.size w w'∧(b=true→FitM M):=by
 refine (Fits_says M.tp M.imp M.fp M.tbp M.mp M.gp M.xp M.ep M.dp M.tn M.tc M.imn M.imc M.fn M.fc M.tbn M.tbc M.mn M.mc M.gn M.gc M.xn M.xc M.en M.ec M.dn M.dc M.st M.cnt
  M.tg M.tw (fun i=>(M.t i).pa) (fun i=>(M.t i).a.length) (fun i=>(M.t i).ca) (fun i=>(M.t i).pb) (fun i=>(M.t i).b.length) (fun i=>(M.t i).cb)
  M.img M.imw (fun i=>(M.im i).s0) (fun i=>(M.im i).s1)
  M.xg M.xw (fun i=>(M.x i).s)
  M.fg M.fw (fun i=>(M.f i).pl) (fun i=>(M.f i).l.length) (fun i=>(M.f i).cl) (fun i=>(M.f i).pf) (fun i=>(M.f i).f.len) (fun i=>(M.f i).cf) (fun i=>decide (0≤wg (M.f i).f 0 3000))
  M.gg M.gw (fun i=>(M.g i).pf) (fun i=>(M.g i).f.len) (fun i=>(M.g i).cf) (fun i=>decide (0≤wg (M.g i).f 0 3000))
  M.eg M.ew (fun i=>(M.e i).pf) (fun i=>(M.e i).f.len) (fun i=>(M.e i).cf) (fun i=>(M.e i).pg) (fun i=>(M.e i).ng) (fun i=>(M.e i).cg) (fun i=>decide (0≤wg (M.e i).f 0 3000))
  (fun i=>(M.e i).bg) (fun i=>(M.e i).og) (fun i=>(M.e i).qg) (fun i k=>((M.e i).g k).len) (fun i=>(M.e i).dg) (fun i k=>decide (0≤wg ((M.e i).g k) 0 3000))
  M.dg M.dw (fun i=>(M.d i).pf) (fun i=>(M.d i).f.len) (fun i=>(M.d i).cf) (fun i=>(M.d i).pb) (fun i=>(M.d i).b.length) (fun i=>(M.d i).cb) (fun i=>decide (0≤wg (M.d i).f 0 3000)) w
  h.tr.1 h.tr.2.1 (fun i hi=>⟨h.tr.2.2 i hi 0 _ rfl,h.tr.2.2 i hi 1 _ rfl⟩)
  h.imr.1 h.imr.2.1 (fun i hi=>⟨h.imr.2.2 i hi 0 _ rfl,h.imr.2.2 i hi 1 _ rfl⟩)
  h.xr.1 h.xr.2.1 (fun i hi=>h.xr.2.2 i hi 0 _ rfl)
  h.fr.1 h.fr.2.1 (fun i hi=>⟨h.fr.2.2 i hi 1 _ rfl,h.fr.2.2 i hi 2 _ rfl⟩) (fun i hi W hW=>fewC (h.fz i hi).h2 hW)
  h.gr.1 h.gr.2.1 (fun i hi=>h.gr.2.2 i hi 2 _ rfl) (fun i hi W hW=>fewC (h.gz i hi).h1 hW)
  h.er.1 h.er.2.1 (fun i hi=>⟨h.er.2.2 i hi 3 _ rfl,h.er.2.2 i hi 4 _ rfl⟩) (fun i hi W hW=>fewC (h.ez i hi).h3 hW)
  (fun i hi=>(h.ez i hi).h4.1.1) (fun i hi=>(h.ez i hi).h4.1.2.1)
  (fun i hi k hk=>by have:=(h.ez i hi).h4.1.2.2 k hk 0 _ rfl;simpa using this)
  (fun i hi k hk W hW=>fewC ((h.ez i hi).h4.2 k hk) hW)
  h.dr.1 h.dr.2.1 (fun i hi=>⟨h.dr.2.2 i hi 2 _ rfl,h.dr.2.2 i hi 3 _ rfl⟩) (fun i hi W hW=>fewC (h.dz i hi).h2 hW)).mono ?_
 rintro e w' ⟨b,rfl,hb,hr⟩
 refine ⟨b,rfl,hb,fun hh=>?_⟩
 obtain ⟨a0,a1,a2,a3,a4,a5,a6,a7,a8,q0,q1,q2,q3,q4,q5,q6⟩:=hr hh
 exact ⟨a0,a1,a2,a3,a4,a5,a6,a7,a8,q0,q1,q2,fun i hi=>⟨of_decide_eq_true (q3 i hi).1,(q3 i hi).2⟩,fun i hi=>of_decide_eq_true (q4 i hi),fun i hi=>⟨of_decide_eq_true (q5 i hi).1,(q5 i hi).2.1⟩,fun i hi k hk=>of_decide_eq_true ((q5 i hi).2.2 k hk),fun i hi=>⟨of_decide_eq_true (q6 i hi).1,(q6 i hi).2⟩⟩
def partM (g:Nat) (l:List Int) (pl:Option Addr) (cl:Nat) (x:EElm) (d:EDat):MD :=
 ⟨none,0,0,0,0,fun _=>⟨[],none,0,[],none,0⟩,none,0,0,0,0,fun _=>⟨.empty,.empty,0,0,0,0,0,false,0,0,false,0,false⟩,some ⟨g,0,none⟩,1,1,g,0,fun _=>⟨0,l,pl,cl,.nil,none,0⟩,none,0,0,0,0,fun _=>⟨0,0,0,false⟩,none,0,0,0,0,fun _=>⟨0,0,false⟩,none,0,0,0,0,fun _=>⟨0,false,.nil,none,0⟩,none,0,0,0,0,fun _=>⟨.empty,0,0⟩,some ⟨g+1,0,none⟩,1,1,g+1,0,fun _=>x,some ⟨g+1+1,0,none⟩,1,1,g+1+1,0,fun _=>d,0,false⟩
theorem row_one {B g N:Nat} {cs:List Value} {T:TypeId} {W:World} (h:CA g cs.toArray T W) (hg:g<B):RowM B W (some ⟨g,0,none⟩) 1 g 0 N (fun _=>cs) :=
 ⟨by omega,fun _=>⟨rfl,hg⟩,fun i hi k v hk=>by
  obtain rfl:i=0:=by omega
  have:=h.at (k:=k) (v:=v) (by simpa using hk)
  simpa using this⟩
theorem row_no {B N b o:Nat} {cs:Nat→List Value} {W:World}:RowM B W none 0 b o N cs:=⟨by omega,fun h=>absurd rfl h,fun i hi=>absurd hi (Nat.not_lt_zero i)⟩
theorem i0:i64B 0:=by unfold i64B;omega
theorem parts_ok {w w1:World} {l:List Int} {pl:Option Addr} {cl:Nat} {x:EElm} {d:EDat} (hl:LO w.heap.size w pl cl l) (hx:x.ok w.heap.size w) (hd:d.ok w.heap.size w) (hb:Below w.heap.size w w1) :
  (partM w1.heap.size l pl cl x d).ok (((w1.alloc (Qc #[I J 0,V pl l.length cl,V none 0 0] 42)).alloc (Qc #[I J x.r,I J x.m,I J x.t,V x.pf x.f.len x.cf,V x.pg x.ng x.cg] 62)).alloc (Qc #[I J d.m,I J d.t,V d.pf d.f.len d.cf,V d.pb d.b.length d.cb] 64)).heap.size (((w1.alloc (Qc #[I J 0,V pl l.length cl,V none 0 0] 42)).alloc (Qc #[I J x.r,I J x.m,I J x.t,V x.pf x.f.len x.cf,V x.pg x.ng x.cg] 62)).alloc (Qc #[I J d.m,I J d.t,V d.pf d.f.len d.cf,V d.pb d.b.length d.cb] 64)):=by
 have c1:=((CA.new w1 #[I J 0,V pl l.length cl,V none 0 0] 42).alloc (Qc #[I J x.r,I J x.m,I J x.t,V x.pf x.f.len x.cf,V x.pg x.ng x.cg] 62)).alloc (Qc #[I J d.m,I J d.t,V d.pf d.f.len d.cf,V d.pb d.b.length d.cb] 64)
 have c2:=(CA.new (w1.alloc (Qc #[I J 0,V pl l.length cl,V none 0 0] 42)) #[I J x.r,I J x.m,I J x.t,V x.pf x.f.len x.cf,V x.pg x.ng x.cg] 62).alloc (Qc #[I J d.m,I J d.t,V d.pf d.f.len d.cf,V d.pb d.b.length d.cb] 64)
 have c3:=CA.new ((w1.alloc (Qc #[I J 0,V pl l.length cl,V none 0 0] 42)).alloc (Qc #[I J x.r,I J x.m,I J x.t,V x.pf x.f.len x.cf,V x.pg x.ng x.cg] 62)) #[I J d.m,I J d.t,V d.pf d.f.len d.cf,V d.pb d.b.length d.cb] 64
 have b1:=((hb.alloc hb.size (Qc #[I J 0,V pl l.length cl,V none 0 0] 42)).alloc (by rw[size_al];have:=hb.size;omega) (Qc #[I J x.r,I J x.m,I J x.t,V x.pf x.f.len x.cf,V x.pg x.ng x.cg] 62)).alloc (by rw[size_al,size_al];have:=hb.size;omega) (Qc #[I J d.m,I J d.t,V d.pf d.f.len d.cf,V d.pb d.b.length d.cb] 64)
 have hs:(((w1.alloc (Qc #[I J 0,V pl l.length cl,V none 0 0] 42)).alloc (Qc #[I J x.r,I J x.m,I J x.t,V x.pf x.f.len x.cf,V x.pg x.ng x.cg] 62)).alloc (Qc #[I J d.m,I J d.t,V d.pf d.f.len d.cf,V d.pb d.b.length d.cb] 64)).heap.size=w1.heap.size+1+1+1:=by rw[size_al,size_al,size_al]
 simp only[size_al]at c2 c3
 generalize (((w1.alloc (Qc #[I J 0,V pl l.length cl,V none 0 0] 42)).alloc (Qc #[I J x.r,I J x.m,I J x.t,V x.pf x.f.len x.cf,V x.pg x.ng x.cg] 62)).alloc (Qc #[I J d.m,I J d.t,V d.pf d.f.len d.cf,V d.pb d.b.length d.cb] 64))=W3 at *
 have hz:∀ {i:Nat} {p:Prop},i<0→p:=fun h=>absurd h (Nat.not_lt_zero _)
 exact ⟨row_no,fun i h=>hz h,row_no,fun i h=>hz h,row_one c1 (by omega),fun i h=>⟨i0,(hl.below b1).mono b1.size,⟨⟨none,0,0,0,rfl,fun h=>absurd rfl h,trivial⟩,by show (0:Nat)<9223372036854775807;omega,trivial,trivial⟩⟩,row_no,fun i h=>hz h,row_no,fun i h=>hz h,row_no,fun i h=>hz h,row_no,fun i h=>hz h,row_one c2 (by omega),fun i h=>(hx.below b1).mono b1.size,row_one c3 (by omega),fun i h=>(hd.below b1).mono b1.size,i0⟩
theorem law_Parts (l:List Int) (pl:Option Addr) (cl:Nat) (x:EElm) (d:EDat) (w:World) (hl:LO w.heap.size w pl cl l) (hx:x.ok w.heap.size w) (hd:d.ok w.heap.size w) :
  Calls Tryz.prog 12 #[V pl l.length cl,.agg #[I J x.r,I J x.m,I J x.t,V x.pf x.f.len x.cf,V x.pg x.ng x.cg],.agg #[I J d.m,I J d.t,V d.pf d.f.len d.cf,V d.pb d.b.length d.cb]] w fun e w'=>e=Qr (G true)∧Below w.heap.size w w':=by
 have HA:=fun W=>hid (awakeE W)
 have HL:=hid hl
 have HX:=hid hx
 have HD:=hid hd
 clear hl hx hd
 have HXE:=hid ((CA.new w #[I J x.r,I J x.m,I J x.t,V x.pf x.f.len x.cf,V x.pg x.ng x.cg] 62).alloc (Qc #[I J d.m,I J d.t,V d.pf d.f.len d.cf,V d.pb d.b.length d.cb] 64))
 have HXD:=hid (CA.new (w.alloc (Qc #[I J x.r,I J x.m,I J x.t,V x.pf x.f.len x.cf,V x.pg x.ng x.cg] 62)) #[I J d.m,I J d.t,V d.pf d.f.len d.cf,V d.pb d.b.length d.cb] 64)
 have HB0:=hid (((QB w.heap.size w).alloc (Ql _) (Qc #[I J x.r,I J x.m,I J x.t,V x.pf x.f.len x.cf,V x.pg x.ng x.cg] 62)).alloc (by rw[size_al];omega) (Qc #[I J d.m,I J d.t,V d.pf d.f.len d.cf,V d.pb d.b.length d.cb] 64))
 go_enter Tryz.func12,Tryz.ntmps12
 go_upto_region 4 with (go_at_call 22;(with_reducible refine (HA _).out.mono ?_);rintro e w1 ⟨rfl,hb⟩;have HBW:=hid (HB0.out.trans (hb.mono (by rw[size_al,size_al];omega)));have HE1:=Qe HXE hb;have HD1:=Qe HXD hb;clear hb)
 simp only[size_al]at HD1
 clear HXE HXD HB0
 have HE2:=HE1.out.alloc (Qc #[I J 0,V pl l.length cl,V none 0 0] 42)
 have HD2:=(HD1.out.alloc (Qc #[I J 0,V pl l.length cl,V none 0 0] 42)).alloc (Qc #[I J x.r,I J x.m,I J x.t,V x.pf x.f.len x.cf,V x.pg x.ng x.cg] 62)
 have x0:=HE2.at (k:=0) (v:=I J x.r) rfl
 have x1:=HE2.at (k:=1) (v:=I J x.m) rfl
 have x2:=HE2.at (k:=2) (v:=I J x.t) rfl
 have x3:=HE2.at (k:=3) (v:=V x.pf x.f.len x.cf) rfl
 have x4:=HE2.at (k:=4) (v:=V x.pg x.ng x.cg) rfl
 have d0:=HD2.at (k:=0) (v:=I J d.m) rfl
 have d1:=HD2.at (k:=1) (v:=I J d.t) rfl
 have d2:=HD2.at (k:=2) (v:=V d.pf d.f.len d.cf) rfl
 have d3:=HD2.at (k:=3) (v:=V d.pb d.b.length d.cb) rfl
 go_upto_region 5 with fail
 clear x0 x1 x2 x3 x4 d0 d1 d2 d3 HE2 HD2 HE1 HD1 HA
 have hok:=parts_ok HL.out HX.out HD.out HBW.out
 have HBW3:=hid (((HBW.out.alloc HBW.out.size (Qc #[I J 0,V pl l.length cl,V none 0 0] 42)).alloc (by rw[size_al];have:=HBW.out.size;omega) (Qc #[I J x.r,I J x.m,I J x.t,V x.pf x.f.len x.cf,V x.pg x.ng x.cg] 62)).alloc (by rw[size_al,size_al];have:=HBW.out.size;omega) (Qc #[I J d.m,I J d.t,V d.pf d.f.len d.cf,V d.pb d.b.length d.cb] 64))
 have hs:(((w1.alloc (Qc #[I J 0,V pl l.length cl,V none 0 0] 42)).alloc (Qc #[I J x.r,I J x.m,I J x.t,V x.pf x.f.len x.cf,V x.pg x.ng x.cg] 62)).alloc (Qc #[I J d.m,I J d.t,V d.pf d.f.len d.cf,V d.pb d.b.length d.cb] 64)).heap.size=w1.heap.size+1+1+1:=by rw[size_al,size_al,size_al]
 rw[←hs]
 generalize (((w1.alloc (Qc #[I J 0,V pl l.length cl,V none 0 0] 42)).alloc (Qc #[I J x.r,I J x.m,I J x.t,V x.pf x.f.len x.cf,V x.pg x.ng x.cg] 62)).alloc (Qc #[I J d.m,I J d.t,V d.pf d.f.len d.cf,V d.pb d.b.length d.cb] 64))=W3 at *
 generalize hg:w1.heap.size=g at *
 obtain ⟨M,hM⟩:∃M,M=partM g l pl cl x d:=⟨_,rfl⟩
 have hv:M.val=.agg #[V none 0 0,V none 0 0,V (some ⟨g,0,none⟩) 1 1,V none 0 0,V none 0 0,V none 0 0,V none 0 0,I J 0,V (some ⟨g+1,0,none⟩) 1 1,V (some ⟨g+1+1,0,none⟩) 1 1,G false]:=by rw[hM];rfl
 rw[←hM]at hok
 have HF:=fun (W:World) (hW:Below W3.heap.size W3 W)=>hid (Fits_M ((hok.below hW).mono hW.size))
 have HY:=fun (hf:FitM M) (hm:mayP M=true) (W:World) (hW:Below W3.heap.size W3 W)=>hid (encMod_yes M W ((hok.below hW).mono hW.size) hf hm)
 have HN:=fun (hf:FitM M) (hm:mayP M=false) (W:World) (hW:Below W3.heap.size W3 W)=>hid (encMod_no M W ((hok.below hW).mono hW.size) hf hm)
 have HRY:=fun (hf:FitM M) (hm:mayP M=true) (W:World) (hW:Below W3.heap.size W3 W)=>hid (refMod_yes ((hok.below hW).mono hW.size) hf hm)
 have HRN:=fun (hf:FitM M) (hm:mayP M=false) (W:World) (hW:Below W3.heap.size W3 W)=>hid (refMod_no ((hok.below hW).mono hW.size) hf hm)
 generalize modL M=E at *
 generalize mayP M=b at *
 rw[hv]at HF HY HN HRY HRN
 generalize FitM M=FM at *
 clear hok hv hM hg hs HL HX HD HBW
 have HX1:=hid (CA.new W3 #[V none 0 0,V none 0 0,V (some ⟨g,0,none⟩) 1 1,V none 0 0,V none 0 0,V none 0 0,V none 0 0,I J 0,V (some ⟨g+1,0,none⟩) 1 1,V (some ⟨g+1+1,0,none⟩) 1 1,G false] 32)
 have HB1:=hid ((QB W3.heap.size W3).alloc (Ql _) (Qc #[V none 0 0,V none 0 0,V (some ⟨g,0,none⟩) 1 1,V none 0 0,V none 0 0,V none 0 0,V none 0 0,I J 0,V (some ⟨g+1,0,none⟩) 1 1,V (some ⟨g+1+1,0,none⟩) 1 1,G false] 32))
 have y0:=HX1.out.at (k:=0) (v:=V none 0 0) rfl;have y1:=HX1.out.at (k:=1) (v:=V none 0 0) rfl;have y2:=HX1.out.at (k:=2) (v:=V (some ⟨g,0,none⟩) 1 1) rfl;have y3:=HX1.out.at (k:=3) (v:=V none 0 0) rfl;have y4:=HX1.out.at (k:=4) (v:=V none 0 0) rfl;have y5:=HX1.out.at (k:=5) (v:=V none 0 0) rfl;have y6:=HX1.out.at (k:=6) (v:=V none 0 0) rfl;have y7:=HX1.out.at (k:=7) (v:=I J 0) rfl;have y8:=HX1.out.at (k:=8) (v:=V (some ⟨g+1,0,none⟩) 1 1) rfl;have y9:=HX1.out.at (k:=9) (v:=V (some ⟨g+1+1,0,none⟩) 1 1) rfl;have y10:=HX1.out.at (k:=10) (v:=G false) rfl
 go_upto_region 6 with (go_at_call 14;(with_reducible refine (HF _ HB1.out).out.mono ?_);rintro e w2 ⟨bf,rfl,hb,hr⟩;have HFM:=hid hr;have HB2:=Qd HB1 hb;have HX2:=Qe HX1 hb;clear hb hr)
 clear y0 y1 y2 y3 y4 y5 y6 y7 y8 y9 y10
 clear HF HX1 HB1
 cases bf with
 |false =>
  clear HY HN HRY HRN HFM
  go_wp2
  go_ret
  exact ⟨rfl,HBW3.out.trans (HB2.out.mono HBW3.out.size)⟩
 |true =>
  have hf:=HFM.out rfl
  have y0:=HX2.out.at (k:=0) (v:=V none 0 0) rfl;have y1:=HX2.out.at (k:=1) (v:=V none 0 0) rfl;have y2:=HX2.out.at (k:=2) (v:=V (some ⟨g,0,none⟩) 1 1) rfl;have y3:=HX2.out.at (k:=3) (v:=V none 0 0) rfl;have y4:=HX2.out.at (k:=4) (v:=V none 0 0) rfl;have y5:=HX2.out.at (k:=5) (v:=V none 0 0) rfl;have y6:=HX2.out.at (k:=6) (v:=V none 0 0) rfl;have y7:=HX2.out.at (k:=7) (v:=I J 0) rfl;have y8:=HX2.out.at (k:=8) (v:=V (some ⟨g+1,0,none⟩) 1 1) rfl;have y9:=HX2.out.at (k:=9) (v:=V (some ⟨g+1+1,0,none⟩) 1 1) rfl;have y10:=HX2.out.at (k:=10) (v:=G false) rfl
  cases b with
  |false =>
   have KN:=fun (W:World) (h:Below W3.heap.size W3 W)=>hid (HN hf rfl W h).out
   have KR:=fun (W:World) (h:Below W3.heap.size W3 W)=>hid (HRN hf rfl W h).out
   clear HY HN HRY HRN HFM hf
   go_upto_region 10 with (first
    |(go_at_call 23;(with_reducible refine (KN _ HB2.out).out.mono ?_);rintro e w3 ⟨rfl,hb⟩;have HB3:=Qd HB2 hb;have HX3:=Qe HX2 hb;clear y0 y1 y2 y3 y4 y5 y6 y7 y8 y9 y10;have y0:=HX3.out.at (k:=0) (v:=V none 0 0) rfl;have y1:=HX3.out.at (k:=1) (v:=V none 0 0) rfl;have y2:=HX3.out.at (k:=2) (v:=V (some ⟨g,0,none⟩) 1 1) rfl;have y3:=HX3.out.at (k:=3) (v:=V none 0 0) rfl;have y4:=HX3.out.at (k:=4) (v:=V none 0 0) rfl;have y5:=HX3.out.at (k:=5) (v:=V none 0 0) rfl;have y6:=HX3.out.at (k:=6) (v:=V none 0 0) rfl;have y7:=HX3.out.at (k:=7) (v:=I J 0) rfl;have y8:=HX3.out.at (k:=8) (v:=V (some ⟨g+1,0,none⟩) 1 1) rfl;have y9:=HX3.out.at (k:=9) (v:=V (some ⟨g+1+1,0,none⟩) 1 1) rfl;have y10:=HX3.out.at (k:=10) (v:=G false) rfl;clear hb)
    |(go_at_call 24;(with_reducible refine (KR _ HB3.out).out.mono ?_);rintro e w4 ⟨rfl,hb⟩;have HB4:=Qd HB3 hb;clear hb))
   have cN:=conv_bytes (bytes_of_owned (own_nil w4 0) (by decide))
   go_wp2
   go_ret
   exact ⟨rfl,HBW3.out.trans (HB4.out.mono HBW3.out.size)⟩
  |true =>
   have KN:=fun (W:World) (h:Below W3.heap.size W3 W)=>hid (HY hf rfl W h).out
   have KR:=fun (W:World) (h:Below W3.heap.size W3 W)=>hid (HRY hf rfl W h).out
   clear HY HN HRY HRN HFM hf
   obtain ⟨s,hst⟩:∃s:ByteArray,(⟨E.toArray⟩:ByteArray)=s:=⟨_,rfl⟩
   have HST:=hid hst
   clear hst
   go_upto_region 10 with (first
    |(go_at_call 23;(with_reducible refine (KN _ HB2.out).out.mono ?_);rintro e w3 ⟨p1,n1,c1,rfl,hby,hb⟩;have HP3:=hid hby;have HB3:=Qd HB2 hb;have HX3:=Qe HX2 hb;clear y0 y1 y2 y3 y4 y5 y6 y7 y8 y9 y10;have y0:=HX3.out.at (k:=0) (v:=V none 0 0) rfl;have y1:=HX3.out.at (k:=1) (v:=V none 0 0) rfl;have y2:=HX3.out.at (k:=2) (v:=V (some ⟨g,0,none⟩) 1 1) rfl;have y3:=HX3.out.at (k:=3) (v:=V none 0 0) rfl;have y4:=HX3.out.at (k:=4) (v:=V none 0 0) rfl;have y5:=HX3.out.at (k:=5) (v:=V none 0 0) rfl;have y6:=HX3.out.at (k:=6) (v:=V none 0 0) rfl;have y7:=HX3.out.at (k:=7) (v:=I J 0) rfl;have y8:=HX3.out.at (k:=8) (v:=V (some ⟨g+1,0,none⟩) 1 1) rfl;have y9:=HX3.out.at (k:=9) (v:=V (some ⟨g+1+1,0,none⟩) 1 1) rfl;have y10:=HX3.out.at (k:=10) (v:=G false) rfl;clear hby hb)
    |(go_at_call 24;(with_reducible refine (KR _ HB3.out).out.mono ?_);rintro e w4 ⟨v,rfl,ho,hb⟩;obtain ⟨p2,m2,c2,rfl⟩:=own_slice ho;have HR4:=hid (bytes_of_owned ho HP3.out.len);have HP4:=hid (HP3.out.below hb);have HB4:=Qd HB3 hb;clear ho hb))
   have c1:=conv_bytes HP4.out
   have c2:=conv_bytes HR4.out
   rw[HST.out]at c1 c2
   go_wp2
   go_ret
   exact ⟨rfl,HBW3.out.trans (HB4.out.mono HBW3.out.size)⟩
end Go.Proofs.YtjgeedgphcjhoaaGreat
