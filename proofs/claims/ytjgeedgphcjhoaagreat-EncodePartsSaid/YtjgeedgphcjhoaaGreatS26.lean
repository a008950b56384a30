/-
  RMod, RefM, RefM2: merged, what the law does not reach left out (each text says what it holds where it lies in wip). No condition.
-/
import Derived.Test.YtjgeedgphcjhoaaGreatS24
import Derived.Test.YtjgeedgphcjhoaaGreatS23
import Derived.Test.YtjgeedgphcjhoaaGreatS25
import Derived.Test.YtjgeedgphcjhoaaGreatS01
set_option linter.unusedSimpArgs false
set_option linter.unusedVariables false
set_option maxRecDepth 100000
set_option maxHeartbeats 64000000
namespace Go.Proofs.YtjgeedgphcjhoaaGreat
open Go.RowKit
open Value renaming int → I,slice → V,bool → G,pointer → Qp
open IntKind renaming i64 → J
open Ending renaming returned → Qr
open Obj renaming cells → Qc
open _root_.Go.Proofs.Tryz renaming prog → QP
open Nat renaming le_refl → Ql,le_trans → Qk,zero_le → Qz
open List renaming length_append → QA,length_cons → QC,length_nil → QN,append_assoc → QS
open Below renaming refl → QB
open Act renaming put → Qu
open Lib renaming byteCells → QY
def dhL (m t:Int) (c:List UInt8):List UInt8:=if m=1 then [1] else if t=0 then [0]++c else [2]++uI t++c
theorem own_lit8 (w:World):(w.alloc (Qc #[.int .u8 0,.int .u8 97,.int .u8 115,.int .u8 109,.int .u8 1,.int .u8 0,.int .u8 0,.int .u8 0] 5)).ownsRow w.heap.size 5 1 (V (some ⟨w.heap.size,0,none⟩) 8 8) ([0,97,115,109,1,0,0,0]:List UInt8).length (QY [0,97,115,109,1,0,0,0]):=by
 have:=World.ownsRow_lit (base:=w.heap.size) (e:=5) (size:=1) w #[.int .u8 0,.int .u8 97,.int .u8 115,.int .u8 109,.int .u8 1,.int .u8 0,.int .u8 0,.int .u8 0] 8 (Ql _) (by decide) rfl
 exact this
theorem Rmod_no (tp imp fp tbp mp gp xp ep dp:Option Addr) (tn tc imn imc fn fc tbn tbc mn mc gn gc xn xc en ec dn dc:Nat) (st:Int) (cnt:Bool) (w:World)
  (hmay:∀W,Below w.heap.size w W→Calls QP 16 #[.agg #[V tp tn tc,V imp imn imc,V fp fn fc,V tbp tbn tbc,V mp mn mc,V gp gn gc,V xp xn xc,I J st,V ep en ec,V dp dn dc,G cnt]] W fun e w'=>e=Qr (G false)∧Below W.heap.size W w') :
  Calls QP 24 #[.agg #[V tp tn tc,V imp imn imc,V fp fn fc,V tbp tbn tbc,V mp mn mc,V gp gn gc,V xp xn xc,I J st,V ep en ec,V dp dn dc,G cnt]] w fun e w'=>e=Qr (.tuple #[V none 0 0,I J 1])∧Below w.heap.size w w':=by
 have HMAY:=hid hmay
 have HX0:=hid (CA.new w #[V tp tn tc,V imp imn imc,V fp fn fc,V tbp tbn tbc,V mp mn mc,V gp gn gc,V xp xn xc,I J st,V ep en ec,V dp dn dc,G cnt] 32)
 have HB0:=hid ((QB w.heap.size w).alloc (Ql _) (Qc #[V tp tn tc,V imp imn imc,V fp fn fc,V tbp tbn tbc,V mp mn mc,V gp gn gc,V xp xn xc,I J st,V ep en ec,V dp dn dc,G cnt] 32))
 clear hmay
 obtain ⟨y0,y1,y2,y3,y4,y5,y6,y7,y8,y9,y10⟩:=ca11 HX0.out
 go_enter Tryz.func24,Tryz.ntmps24
 go_wp2_with (go_at_call 16;(with_reducible refine (HMAY.out _ HB0.out).mono ?_);rintro e w1 ⟨rfl,hb⟩;have HB1:=Qd HB0 hb;clear hb)
 go_ret2
 exact ⟨rfl,HB1.out⟩
theorem Rmod_says (tp imp fp tbp mp gp xp ep dp:Option Addr) (tn tc imn imc fn fc tbn tbc mn mc gn gc xn xc en ec dn dc:Nat) (st:Int) (cnt:Bool) (eblk eoff:Nat) (et0:Nat→Int) (et1:Nat→Int) (et2:Nat→Int) (ep3:Nat→Option Addr) (en3 ec3:Nat→Nat) (ep4:Nat→Option Addr) (en4 ec4:Nat→Nat) (fblk foff:Nat) (ft0:Nat→Int) (fp1:Nat→Option Addr) (fn1 fc1:Nat→Nat) (fp2:Nat→Option Addr) (fn2 fc2:Nat→Nat) (dblk doff:Nat) (dt0:Nat→Int) (dt1:Nat→Int) (dp2:Nat→Option Addr) (dn2 dc2:Nat→Nat) (dp3:Nat→Option Addr) (dn3 dc3:Nat→Nat) (hd md:List UInt8) (eB fB dE dB:Nat→List UInt8) (w:World)
  (hel:en<9223372036854775807) (heg:en≠0→ep=some ⟨eblk,eoff,none⟩∧eblk<w.heap.size)
  (hex:∀i,i<en→w.cell? ⟨eblk,eoff+i*5,none⟩=some (I J (et0 i))∧w.cell? ⟨eblk,eoff+i*5+1,none⟩=some (I J (et1 i))∧w.cell? ⟨eblk,eoff+i*5+2,none⟩=some (I J (et2 i))∧w.cell? ⟨eblk,eoff+i*5+3,none⟩=some (V (ep3 i) (en3 i) (ec3 i))∧w.cell? ⟨eblk,eoff+i*5+4,none⟩=some (V (ep4 i) (en4 i) (ec4 i)))
  (hfl:fn<9223372036854775807) (hfg:fn≠0→fp=some ⟨fblk,foff,none⟩∧fblk<w.heap.size)
  (hfx:∀i,i<fn→w.cell? ⟨fblk,foff+i*3,none⟩=some (I J (ft0 i))∧w.cell? ⟨fblk,foff+i*3+1,none⟩=some (V (fp1 i) (fn1 i) (fc1 i))∧w.cell? ⟨fblk,foff+i*3+2,none⟩=some (V (fp2 i) (fn2 i) (fc2 i)))
  (hdl:dn<9223372036854775807) (hdg:dn≠0→dp=some ⟨dblk,doff,none⟩∧dblk<w.heap.size)
  (hdx:∀i,i<dn→w.cell? ⟨dblk,doff+i*4,none⟩=some (I J (dt0 i))∧w.cell? ⟨dblk,doff+i*4+1,none⟩=some (I J (dt1 i))∧w.cell? ⟨dblk,doff+i*4+2,none⟩=some (V (dp2 i) (dn2 i) (dc2 i))∧w.cell? ⟨dblk,doff+i*4+3,none⟩=some (V (dp3 i) (dn3 i) (dc3 i)))
  (hmay:∀W,Below w.heap.size w W→Calls QP 16 #[.agg #[V tp tn tc,V imp imn imc,V fp fn fc,V tbp tbn tbc,V mp mn mc,V gp gn gc,V xp xn xc,I J st,V ep en ec,V dp dn dc,G cnt]] W fun e w'=>e=Qr (G true)∧Below W.heap.size W w')
  (hhd:∀W,Below w.heap.size w W→Calls QP 129 #[.agg #[V tp tn tc,V imp imn imc,V fp fn fc,V tbp tbn tbc,V mp mn mc,V gp gn gc,V xp xn xc,I J st,V ep en ec,V dp dn dc,G cnt]] W (BO W hd)) (hmd:∀W,Below w.heap.size w W→Calls QP 130 #[.agg #[V tp tn tc,V imp imn imc,V fp fn fc,V tbp tbn tbc,V mp mn mc,V gp gn gc,V xp xn xc,I J st,V ep en ec,V dp dn dc,G cnt]] W (BO W md))
  (heB:∀i,i<en→∀W,Below w.heap.size w W→Calls QP 131 #[.agg #[I J (et0 i),I J (et1 i),I J (et2 i),V (ep3 i) (en3 i) (ec3 i),V (ep4 i) (en4 i) (ec4 i)]] W (BO W (eB i))) (hfB:∀i,i<fn→∀W,Below w.heap.size w W→Calls QP 134 #[.agg #[I J (ft0 i),V (fp1 i) (fn1 i) (fc1 i),V (fp2 i) (fn2 i) (fc2 i)]] W (BO W (fB i)))
  (hdM:∀i,i<dn→dt0 i=1∨dt0 i≠1) (hdE:∀i,i<dn→∀W,Below w.heap.size w W→Calls QP 27 #[V (dp2 i) (dn2 i) (dc2 i)] W (BO W (dE i))) (hdY:∀i,i<dn→∀W,Below w.heap.size w W→Calls QP 135 #[I J (dn3 i),V (dp3 i) (dn3 i) (dc3 i)] W (BO W (dB i)))
  (hhl:hd.length≤10000000000000) (hml:md.length≤10000000000000) (heN:(flB en eB).length≤1000000000000) (hfN:(flB fn fB).length≤1000000000000) (hdN:(flB dn (fun i=>dhL (dt0 i) (dt1 i) (dE i)++dB i)).length≤1000000000000) :
  Calls QP 24 #[.agg #[V tp tn tc,V imp imn imc,V fp fn fc,V tbp tbn tbc,V mp mn mc,V gp gn gc,V xp xn xc,I J st,V ep en ec,V dp dn dc,G cnt]] w fun e w'=>∃v,e=Qr (.tuple #[v,I J 0])∧w'.ownsRow w.heap.size 5 1 v ([0,97,115,109,1,0,0,0]++hd++md++secL 9 en (flB en eB)++(if cnt=true then 12::szL (uI dn) else [])++secL 10 fn (flB fn fB)++secL 11 dn (flB dn (fun i=>dhL (dt0 i) (dt1 i) (dE i)++dB i))).length (QY ([0,97,115,109,1,0,0,0]++hd++md++secL 9 en (flB en eB)++(if cnt=true then 12::szL (uI dn) else [])++secL 10 fn (flB fn fB)++secL 11 dn (flB dn (fun i=>dhL (dt0 i) (dt1 i) (dE i)++dB i))))∧Below w.heap.size w w':=by
 have HeG:=hid heg
 have HeX:=hid hex
 have ne62:(en:Int)<9223372036854775807:=by omega
 have HfG:=hid hfg
 have HfX:=hid hfx
 have nf62:(fn:Int)<9223372036854775807:=by omega
 have HdG:=hid hdg
 have HdX:=hid hdx
 have nd62:(dn:Int)<9223372036854775807:=by omega
 have HMAY:=hid hmay
 have HHD:=hid hhd
 have HMD:=hid hmd
 have HeB:=hid heB
 have HfB:=hid hfB
 have HdM:=hid hdM
 have HdE:=hid hdE
 have HdY:=hid hdY
 obtain ⟨FE,hFE⟩:∃F:Nat→List UInt8,F=eB:=⟨_,rfl⟩
 have heN2:(flB en FE).length≤1000000000000:=by rw[hFE];exact heN
 obtain ⟨FF,hFF⟩:∃F:Nat→List UInt8,F=fB:=⟨_,rfl⟩
 have hfN2:(flB fn FF).length≤1000000000000:=by rw[hFF];exact hfN
 obtain ⟨FD,hFD⟩:∃F:Nat→List UInt8,F=(fun i=>dhL (dt0 i) (dt1 i) (dE i)++dB i):=⟨_,rfl⟩
 have hdN2:(flB dn FD).length≤1000000000000:=by rw[hFD];exact hdN
 rw[show [0,97,115,109,1,0,0,0]++hd++md++secL 9 en (flB en eB)++(if cnt=true then 12::szL (uI dn) else [])++secL 10 fn (flB fn fB)++secL 11 dn (flB dn (fun i=>dhL (dt0 i) (dt1 i) (dE i)++dB i))=[0,97,115,109,1,0,0,0]++hd++md++secL 9 en (flB en FE)++(if cnt=true then 12::szL (uI dn) else [])++secL 10 fn (flB fn FF)++secL 11 dn (flB dn FD) by rw[hFE,hFF,hFD]]
 have HFE:=hid hFE
 have HFF:=hid hFF
 have HFD:=hid hFD
 have HeN:=hid heN2
 have HfN:=hid hfN2
 have HdN:=hid hdN2
 obtain ⟨X0,hX0⟩:∃X,X=secL 9 en (flB en FE):=⟨_,rfl⟩
 have e0:=secR_len 9 en (flB en FE)
 rw[←hX0]at e0 ⊢
 have HNs0:=hid (show (flB en FE).length+100≤140737488355000 by omega)
 have HS0:=hid (fun (v:Value) (B:Nat) (W:World) h=>(show Calls QP 132 #[.int .u8 9,I J en,v] W (BO W X0) by rw[hX0];exact Rsec_says 9 (by decide) (by decide) en v (flB en FE) B W h HNs0.out))
 obtain ⟨X1,hX1⟩:∃X,X=secL 10 fn (flB fn FF):=⟨_,rfl⟩
 have e1:=secR_len 10 fn (flB fn FF)
 rw[←hX1]at e1 ⊢
 have HNs1:=hid (show (flB fn FF).length+100≤140737488355000 by omega)
 have HS1:=hid (fun (v:Value) (B:Nat) (W:World) h=>(show Calls QP 132 #[.int .u8 10,I J fn,v] W (BO W X1) by rw[hX1];exact Rsec_says 10 (by decide) (by decide) fn v (flB fn FF) B W h HNs1.out))
 obtain ⟨X2,hX2⟩:∃X,X=secL 11 dn (flB dn FD):=⟨_,rfl⟩
 have e2:=secR_len 11 dn (flB dn FD)
 rw[←hX2]at e2 ⊢
 have HNs2:=hid (show (flB dn FD).length+100≤140737488355000 by omega)
 have HS2:=hid (fun (v:Value) (B:Nat) (W:World) h=>(show Calls QP 132 #[.int .u8 11,I J dn,v] W (BO W X2) by rw[hX2];exact Rsec_says 11 (by decide) (by decide) dn v (flB dn FD) B W h HNs2.out))
 have q9:=uI_len dn
 obtain ⟨Y,hY⟩:∃Y,Y=uI dn:=⟨_,rfl⟩
 have HRU:=fun W=>hid (show Calls QP 133 #[I J dn] W (BO W Y) by rw[hY];exact RU_says dn W)
 obtain ⟨H0,hH0⟩:∃H:List UInt8,H=[0,97,115,109,1,0,0,0]:=⟨_,rfl⟩
 have hH1:H0.length=8:=by rw[hH0];rfl
 have hYl:Y.length≤10:=by rw[hY];exact q9
 have HNh:=hid (show H0.length+hd.length≤140737488355000 by omega)
 have HNm:=hid (show (H0++hd).length+md.length≤140737488355000 by rw[QA];omega)
 have HNa0:=hid (show (H0++hd++md).length+X0.length≤140737488355000 by simp only[QA];omega)
 have HNy:=hid (show (H0++hd++md++X0).length+([12,byI (Y.length:Nat)]:List UInt8).length≤140737488355000 by simp only[QA,QC,QN];omega)
 have HNz:=hid (show (H0++hd++md++X0++[12,byI (Y.length:Nat)]).length+Y.length≤140737488355000 by simp only[QA,QC,QN];omega)
 obtain ⟨CN,hCN⟩:∃L:List UInt8,L=if cnt=true then [12,byI (Y.length:Nat)]++Y else []:=⟨_,rfl⟩
 have HCN:=hid hCN
 have hCl:CN.length≤12:=by
  rw[hCN]
  split
  · simp only[QA,QC,QN];omega
  · simp
 have HNa1:=hid (show (H0++hd++md++X0++CN).length+X1.length≤140737488355000 by simp only[QA,QC,QN];omega)
 have HNa2:=hid (show (H0++hd++md++X0++CN++X1).length+X2.length≤140737488355000 by simp only[QA,QC,QN];omega)
 have HRES:=hid (show [0,97,115,109,1,0,0,0]++hd++md++X0++(if cnt=true then 12::szL (uI dn) else [])++X1++X2=H0++hd++md++X0++CN++X1++X2 by rw[hH0,hCN];cases cnt<;>simp[szR_small,hY])
 rw[HRES.out]
 have HL8:=fun (W:World)=>hid (show (W.alloc (Qc #[.int .u8 0,.int .u8 97,.int .u8 115,.int .u8 109,.int .u8 1,.int .u8 0,.int .u8 0,.int .u8 0] 5)).ownsRow W.heap.size 5 1 (V (some ⟨W.heap.size,0,none⟩) 8 8) H0.length (QY H0) by rw[hH0];exact own_lit8 W)
 have HX0:=hid (CA.new w #[V tp tn tc,V imp imn imc,V fp fn fc,V tbp tbn tbc,V mp mn mc,V gp gn gc,V xp xn xc,I J st,V ep en ec,V dp dn dc,G cnt] 32)
 have HB0:=hid ((QB w.heap.size w).alloc (Ql _) (Qc #[V tp tn tc,V imp imn imc,V fp fn fc,V tbp tbn tbc,V mp mn mc,V gp gn gc,V xp xn xc,I J st,V ep en ec,V dp dn dc,G cnt] 32))
 clear heg hex hel hfg hfx hfl hdg hdx hdl hmay hhd hmd heB hfB hdM hdE hdY hFE hFF hFD heN hfN hdN heN2 hfN2 hdN2 hX0 e0 hX1 e1 hX2 e2 q9 hhl hml hY hYl hH0 hH1 hCN hCl
 go_enter Tryz.func24,Tryz.ntmps24
 go_upto_region 1 with fail
 generalize w.alloc (Qc #[V tp tn tc,V imp imn imc,V fp fn fc,V tbp tbn tbc,V mp mn mc,V gp gn gc,V xp xn xc,I J st,V ep en ec,V dp dn dc,G cnt] 32)=W0 at *
 obtain ⟨y0,y1,y2,y3,y4,y5,y6,y7,y8,y9,y10⟩:=ca11 HX0.out
 go_upto_region 5 with (go_at_call 16;(with_reducible refine (HMAY.out _ HB0.out).mono ?_);rintro e w1 ⟨rfl,hb⟩;have HB1:=Qd HB0 hb;have HX1:=Qe HX0 hb;clear hb)
 clear y0 y1 y2 y3 y4 y5 y6 y7 y8 y9 y10
 have HOW:=hid (own_less (HL8 w1).out HB1.out.size)
 have HB2:=hid (HB1.out.alloc HB1.out.size (Qc #[.int .u8 0,.int .u8 97,.int .u8 115,.int .u8 109,.int .u8 1,.int .u8 0,.int .u8 0,.int .u8 0] 5))
 have HX2:=hid (HX1.out.alloc (Qc #[.int .u8 0,.int .u8 97,.int .u8 115,.int .u8 109,.int .u8 1,.int .u8 0,.int .u8 0,.int .u8 0] 5))
 generalize w1.alloc (Qc #[.int .u8 0,.int .u8 97,.int .u8 115,.int .u8 109,.int .u8 1,.int .u8 0,.int .u8 0,.int .u8 0] 5)=w2 at *
 generalize hpp:(some (⟨w1.heap.size,0,none⟩:Addr))=pp at *
 clear hpp HB0 HX0 HB1 HX1
 obtain ⟨y0,y1,y2,y3,y4,y5,y6,y7,y8,y9,y10⟩:=ca11 HX2.out
 go_upto_region 7 with (first
  |(go_at_call 129;(with_reducible refine (HHD.out _ HB2.out).mono ?_);rintro e w3 ⟨v,rfl,ho,hb⟩;obtain ⟨p3,m3,c3,rfl⟩:=own_slice ho;have HO3:=hid ho;have HA3:=hid (own_kept HOW.out hb);have HB3:=Qd HB2 hb;have HX3:=Qe HX2 hb;clear ho hb)
  |(at_builtin;refine append_rowW rfl _ _ rfl w.heap.size _ _ _ _ _ w3 HA3.out HO3.out HNh.out HB3.out.size (RF.refl _ _) rfl rfl ?_;intro p4 m4 c4 w4 ho3 hf3;have HA4:=hid ho3;have HB4:=hid (HB3.out.trans (hf3.below HB3.out.size));have HX4:=hid (HX3.out.rf hf3 (by decide));clear y0 y1 y2 y3 y4 y5 y6 y7 y8 y9 y10;obtain ⟨y0,y1,y2,y3,y4,y5,y6,y7,y8,y9,y10⟩:=ca11 HX4.out;clear ho3 hf3 HA3 HO3 HOW)
  |(go_at_call 130;(with_reducible refine (HMD.out _ HB4.out).mono ?_);rintro e w5 ⟨v,rfl,ho,hb⟩;obtain ⟨p5,m5,c5,rfl⟩:=own_slice ho;have HO5:=hid ho;have HA5:=hid (own_kept HA4.out hb);have HB5:=Qd HB4 hb;have HX5:=Qe HX4 hb;clear ho hb)
  |(at_builtin;refine append_rowW rfl _ _ rfl w.heap.size _ _ _ _ _ w5 HA5.out HO5.out HNm.out HB5.out.size (RF.refl _ _) rfl rfl ?_;intro pW mW cW wA ho3 hf3;have HOW:=hid ho3;have HBW:=hid (HB5.out.trans (hf3.below HB5.out.size));have HXW:=hid (HX5.out.rf hf3 (by decide));clear ho3 hf3))
 clear y0 y1 y2 y3 y4 y5 y6 y7 y8 y9 y10
 clear HB2 HX2 HB3 HX3 HB4 HX4 HB5 HX5 HA4 HA5 HO5
 have yf:=HXW.out.at (k:=8) (v:=V ep en ec) rfl
 go_wp2
 go_loopw [6,7] (fun vo vi wr=>∃(i:Nat) (p:Option Addr) (q c:Nat),i≤en∧vi=I J i∧vo=V p q c∧Hid (wr.ownsRow wA.heap.size 5 1 (V p q c) (flB i FE).length (QY (flB i FE)))∧Hid (RF wA.heap.size wA wr)) (fun _ vi _=>en-(intOf vi).toNat)
 case atStart=>exact ⟨0,none,0,0,Qz _,rfl,rfl,own_nil _ _,RF.refl _ _⟩
 clear yf
 obtain ⟨i,p0,m0,c0,hi,rfl,rfl,HR,HF⟩:=hrel
 have HB:=hid (HBW.out.trans ((HF.out.below (Ql _)).mono HBW.out.size))
 have HX:=hid (HXW.out.below (HF.out.below (Ql _)) HXW.out.lt)
 have yf:=HX.out.at (k:=8) (v:=V ep en ec) rfl
 by_cases hlt:i<en
 ·as_aux_lemma =>
  obtain ⟨z0,z1,z2,z3,z4⟩:=HeX.out i hlt
  obtain ⟨hpe,hg⟩:=HeG.out (by omega)
  subst hpe
  clear yf
  have yf:=HX.out.at (k:=8) (v:=V (some ⟨eblk,eoff,none⟩) en ec) rfl
  have x0:=(HB.out.cell (p:=⟨eblk,eoff+i*5,none⟩) hg).trans z0
  have x1:=(HB.out.cell (p:=⟨eblk,eoff+i*5+1,none⟩) hg).trans z1
  have x2:=(HB.out.cell (p:=⟨eblk,eoff+i*5+2,none⟩) hg).trans z2
  have x3:=(HB.out.cell (p:=⟨eblk,eoff+i*5+3,none⟩) hg).trans z3
  have x4:=(HB.out.cell (p:=⟨eblk,eoff+i*5+4,none⟩) hg).trans z4
  have Z0:=hid z0
  have Z1:=hid z1
  have Z2:=hid z2
  have Z3:=hid z3
  have Z4:=hid z4
  have HGL:=hid hg
  clear z0 z1 z2 z3 z4 hg
  have HLE:=hid (Qk (flB_le FE hlt) HeN.out)
  have KC:=fun W h=>hid (HeB.out i hlt W h)
  have HSN:=hid (show flB (i+1) FE=flB i FE++eB i by rw[HFE.out];rfl)
  generalize et0 i=s0 at *
  generalize et1 i=s1 at *
  generalize et2 i=s2 at *
  generalize ep3 i=q3 at *
  generalize en3 i=m3 at *
  generalize ec3 i=d3 at *
  generalize ep4 i=q4 at *
  generalize en4 i=m4 at *
  generalize ec4 i=d4 at *
  generalize eB i=XX at *
  have l0:(flB i FE++XX).length≤1000000000000:=by rw[←HSN.out];exact HLE.out
  rw[QA]at l0
  have HN1:=hid (show (flB i FE).length+XX.length≤140737488355000 by omega)
  clear l0
  go_wp2_with (first
   |(go_at_call 131;(with_reducible refine ((KC _ HB.out).out).mono ?_);rintro e w1 ⟨v,rfl,ho,hb⟩;obtain ⟨p1,m1,c1,rfl⟩:=own_slice ho;have HO1:=hid ho;have HA1:=hid (own_kept HR.out hb);have HQ1:=hid (HF.out.trans (RF.of hb));clear ho hb)
   |(at_builtin;refine append_rowW rfl _ _ rfl wA.heap.size _ _ _ _ _ w1 HA1.out HO1.out HN1.out HQ1.out.size (RF.refl _ _) rfl rfl ?_;intro p2 m2 c2 w2 ho3 hf3;have HA2:=hid ho3;have HQ2:=hid (HQ1.out.trans hf3);clear ho3 hf3))
  go_roundw
  case rel=>exact ⟨i+1,p2,m2,c2,hlt,by go_num,rfl,by rw[HSN.out];exact HA2.out,HQ2⟩
  case measure=>simp[intOf];omega
 have hie:en=i:=by omega
 subst hie
 have HOW1:=hid (own_kept HOW.out (HF.out.below (Ql _)))
 clear yf hi hlt
 have yf:=HX.out.at (k:=8) (v:=V ep en ec) rfl
 go_upto_region 13 with (first
  |(go_at_call 132;(with_reducible refine (HS0.out _ _ _ HR.out).mono ?_);rintro e w2 ⟨v,rfl,ho,hb⟩;obtain ⟨pB,mB,cB,rfl⟩:=own_slice ho;have HOB:=hid ho;have HOW2:=hid (own_kept HOW1.out hb);have HB2:=Qd HB hb;have HX2:=Qe HX hb;clear ho hb)
  |(at_builtin;refine append_rowW rfl _ _ rfl w.heap.size _ _ _ _ _ w2 HOW2.out HOB.out HNa0.out HB2.out.size (RF.refl _ _) rfl rfl ?_;intro pA0 mA0 cA0 wB ho3 hf3;have HOWn:=hid ho3;have HB3:=hid (HB2.out.trans (hf3.below HB2.out.size));have HX3:=hid (HX2.out.rf hf3 (by decide));clear ho3 hf3))
 clear yf HR HF HB HX HBW HXW HOW HOW1 HOW2 HOB HB2 HX2
 have HOW:=HOWn
 have HBW:=HB3
 have HXW:=HX3
 clear HOWn HB3 HX3
 have yf:=HXW.out.at (k:=10) (v:=G cnt) rfl
 go_upto_if 50 with fail
 go_cut [5] (fun o wx=>∃(p:Option Addr) (z c:Nat),o=V p z c∧Hid (wx.ownsRow w.heap.size 5 1 (V p z c) (H0++hd++md++X0++CN).length (QY (H0++hd++md++X0++CN)))∧Hid (Below w.heap.size w wx)∧Hid (CA w.heap.size #[V tp tn tc,V imp imn imc,V fp fn fc,V tbp tbn tbc,V mp mn mc,V gp gn gc,V xp xn xc,I J st,V ep en ec,V dp dn dc,G cnt] 32 wx))
 case first=>as_aux_lemma =>
  have y9:=HXW.out.at (k:=9) (v:=V dp dn dc) rfl
  cases cnt with
  |true =>
   go_wp2_with (first
    |(go_at_call 133;(with_reducible refine (HRU _).out.mono ?_);rintro e w1 ⟨v,rfl,ho,hb⟩;obtain ⟨p1,c1,rfl⟩:=own_sliceN ho;have HO1:=hid ho;have HAP:=hid (own_apart ho HOW.out (Ql _));have HA1:=hid (own_kept HOW.out hb);have HQ1:=Qd HBW hb;have HX1:=Qe HXW hb;clear ho hb)
    |(at_builtin;refine append_rowG rfl _ _ rfl w.heap.size _ _ _ _ _ (w1.alloc (Qc #[.int .u8 12,.int .u8 ((Y.length:Int)%256)] 5)) (own_kept HA1.out ((QB _ _).alloc (Ql _) _)) (own_less (own_lit2n w1 12 12 rfl Y.length) HQ1.out.size) HNy.out (HQ1.out.alloc HQ1.out.size (Qc #[.int .u8 12,.int .u8 ((Y.length:Int)%256)] 5)).size (RF.refl _ _) rfl rfl ?_;intro p2 m2 c2 w2 ho3 hf3 hg3;have HA2:=hid ho3;have HY2:=hid (World.ownsRow.kept (own_kept HO1.out ((QB _ _).alloc (Ql _) (Qc #[.int .u8 12,.int .u8 ((Y.length:Int)%256)] 5))) hg3 HAP.out);have HQ2:=hid ((HQ1.out.alloc HQ1.out.size (Qc #[.int .u8 12,.int .u8 ((Y.length:Int)%256)] 5)).trans (hf3.below (HQ1.out.alloc HQ1.out.size (Qc #[.int .u8 12,.int .u8 ((Y.length:Int)%256)] 5)).size));have HX2:=hid ((HX1.out.alloc (Qc #[.int .u8 12,.int .u8 ((Y.length:Int)%256)] 5)).rf hf3 (by decide));clear ho3 hf3 hg3 HA1)
    |(at_builtin;refine append_rowW rfl _ _ rfl w.heap.size _ _ _ _ _ w2 HA2.out HY2.out HNz.out HQ2.out.size (RF.refl _ _) rfl rfl ?_;intro p3 m3 c3 wB2 ho3 hf3;have HOWn:=hid ho3;have HB3:=hid (HQ2.out.trans (hf3.below HQ2.out.size));have HX3:=hid (HX2.out.rf hf3 (by decide));clear ho3 hf3))
   go_meet
   exact ⟨_,_,_,rfl,hid (by rw[show CN=[12,byI (Y.length:Nat)]++Y by simpa using HCN.out,←QS];exact HOWn.out),HB3,HX3⟩
  |false =>
   go_wp2
   go_meet
   exact ⟨_,_,_,rfl,hid (by rw[show CN=[] by simpa using HCN.out,List.append_nil];exact HOW.out),HBW,HXW⟩
 clear yf HOW HBW HXW
 obtain ⟨pW2,mW2,cW2,rfl,HOW,HBW,HXW⟩:=hcut
 have yf:=HXW.out.at (k:=2) (v:=V fp fn fc) rfl
 go_wp2
 go_loopw [9,10] (fun vo vi wr=>∃(i:Nat) (p:Option Addr) (q c:Nat),i≤fn∧vi=I J i∧vo=V p q c∧Hid (wr.ownsRow wc.heap.size 5 1 (V p q c) (flB i FF).length (QY (flB i FF)))∧Hid (RF wc.heap.size wc wr)) (fun _ vi _=>fn-(intOf vi).toNat)
 case atStart=>exact ⟨0,none,0,0,Qz _,rfl,rfl,own_nil _ _,RF.refl _ _⟩
 clear yf
 obtain ⟨i,p0,m0,c0,hi,rfl,rfl,HR,HF⟩:=hrel
 have HB:=hid (HBW.out.trans ((HF.out.below (Ql _)).mono HBW.out.size))
 have HX:=hid (HXW.out.below (HF.out.below (Ql _)) HXW.out.lt)
 have yf:=HX.out.at (k:=2) (v:=V fp fn fc) rfl
 by_cases hlt:i<fn
 ·as_aux_lemma =>
  obtain ⟨z0,z1,z2⟩:=HfX.out i hlt
  obtain ⟨hpe,hg⟩:=HfG.out (by omega)
  subst hpe
  clear yf
  have yf:=HX.out.at (k:=2) (v:=V (some ⟨fblk,foff,none⟩) fn fc) rfl
  have x0:=(HB.out.cell (p:=⟨fblk,foff+i*3,none⟩) hg).trans z0
  have x1:=(HB.out.cell (p:=⟨fblk,foff+i*3+1,none⟩) hg).trans z1
  have x2:=(HB.out.cell (p:=⟨fblk,foff+i*3+2,none⟩) hg).trans z2
  have Z0:=hid z0
  have Z1:=hid z1
  have Z2:=hid z2
  have HGL:=hid hg
  clear z0 z1 z2 hg
  have HLE:=hid (Qk (flB_le FF hlt) HfN.out)
  have KC:=fun W h=>hid (HfB.out i hlt W h)
  have HSN:=hid (show flB (i+1) FF=flB i FF++fB i by rw[HFF.out];rfl)
  generalize ft0 i=s0 at *
  generalize fp1 i=q1 at *
  generalize fn1 i=m1 at *
  generalize fc1 i=d1 at *
  generalize fp2 i=q2 at *
  generalize fn2 i=m2 at *
  generalize fc2 i=d2 at *
  generalize fB i=XX at *
  have l0:(flB i FF++XX).length≤1000000000000:=by rw[←HSN.out];exact HLE.out
  rw[QA]at l0
  have HN1:=hid (show (flB i FF).length+XX.length≤140737488355000 by omega)
  clear l0
  go_wp2_with (first
   |(go_at_call 134;(with_reducible refine ((KC _ HB.out).out).mono ?_);rintro e w1 ⟨v,rfl,ho,hb⟩;obtain ⟨p1,m1,c1,rfl⟩:=own_slice ho;have HO1:=hid ho;have HA1:=hid (own_kept HR.out hb);have HQ1:=hid (HF.out.trans (RF.of hb));clear ho hb)
   |(at_builtin;refine append_rowW rfl _ _ rfl wc.heap.size _ _ _ _ _ w1 HA1.out HO1.out HN1.out HQ1.out.size (RF.refl _ _) rfl rfl ?_;intro p2 m2 c2 w2 ho3 hf3;have HA2:=hid ho3;have HQ2:=hid (HQ1.out.trans hf3);clear ho3 hf3))
  go_roundw
  case rel=>exact ⟨i+1,p2,m2,c2,hlt,by go_num,rfl,by rw[HSN.out];exact HA2.out,HQ2⟩
  case measure=>simp[intOf];omega
 have hie:fn=i:=by omega
 subst hie
 have HOW1:=hid (own_kept HOW.out (HF.out.below (Ql _)))
 clear yf hi hlt
 have yf:=HX.out.at (k:=2) (v:=V fp fn fc) rfl
 go_upto_region 22 with (first
  |(go_at_call 132;(with_reducible refine (HS1.out _ _ _ HR.out).mono ?_);rintro e w2 ⟨v,rfl,ho,hb⟩;obtain ⟨pB,mB,cB,rfl⟩:=own_slice ho;have HOB:=hid ho;have HOW2:=hid (own_kept HOW1.out hb);have HB2:=Qd HB hb;have HX2:=Qe HX hb;clear ho hb)
  |(at_builtin;refine append_rowW rfl _ _ rfl w.heap.size _ _ _ _ _ w2 HOW2.out HOB.out HNa1.out HB2.out.size (RF.refl _ _) rfl rfl ?_;intro pA1 mA1 cA1 wC ho3 hf3;have HOWn:=hid ho3;have HB3:=hid (HB2.out.trans (hf3.below HB2.out.size));have HX3:=hid (HX2.out.rf hf3 (by decide));clear ho3 hf3))
 clear yf HR HF HB HX HBW HXW HOW HOW1 HOW2 HOB HB2 HX2
 have HOW:=HOWn
 have HBW:=HB3
 have HXW:=HX3
 clear HOWn HB3 HX3
 have yf:=HXW.out.at (k:=9) (v:=V dp dn dc) rfl
 go_wp2
 go_loopw [11,12] (fun vo vi wr=>∃(i:Nat) (p:Option Addr) (q c:Nat),i≤dn∧vi=I J i∧vo=V p q c∧Hid (wr.ownsRow wC.heap.size 5 1 (V p q c) (flB i FD).length (QY (flB i FD)))∧Hid (RF wC.heap.size wC wr)) (fun _ vi _=>dn-(intOf vi).toNat)
 case atStart=>exact ⟨0,none,0,0,Qz _,rfl,rfl,own_nil _ _,RF.refl _ _⟩
 clear yf
 obtain ⟨i,p0,m0,c0,hi,rfl,rfl,HR,HF⟩:=hrel
 have HB:=hid (HBW.out.trans ((HF.out.below (Ql _)).mono HBW.out.size))
 have HX:=hid (HXW.out.below (HF.out.below (Ql _)) HXW.out.lt)
 have yf:=HX.out.at (k:=9) (v:=V dp dn dc) rfl
 by_cases hlt:i<dn
 ·as_aux_lemma =>
  obtain ⟨z0,z1,z2,z3⟩:=HdX.out i hlt
  obtain ⟨hpe,hg⟩:=HdG.out (by omega)
  subst hpe
  clear yf
  have yf:=HX.out.at (k:=9) (v:=V (some ⟨dblk,doff,none⟩) dn dc) rfl
  have x0:=(HB.out.cell (p:=⟨dblk,doff+i*4,none⟩) hg).trans z0
  have x1:=(HB.out.cell (p:=⟨dblk,doff+i*4+1,none⟩) hg).trans z1
  have x2:=(HB.out.cell (p:=⟨dblk,doff+i*4+2,none⟩) hg).trans z2
  have x3:=(HB.out.cell (p:=⟨dblk,doff+i*4+3,none⟩) hg).trans z3
  have Z0:=hid z0
  have Z1:=hid z1
  have Z2:=hid z2
  have Z3:=hid z3
  have HGL:=hid hg
  clear z0 z1 z2 z3 hg
  have HLE:=hid (Qk (flB_le FD hlt) HdN.out)
  have KE:=fun W h=>hid (HdE.out i hlt W h)
  have KY:=fun W h=>hid (HdY.out i hlt W h)
  have KM:=hid (HdM.out i hlt)
  have HSN:=hid (show flB (i+1) FD=flB i FD++(dhL (dt0 i) (dt1 i) (dE i)++dB i) by rw[HFD.out];rfl)
  generalize dt0 i=s0 at *
  generalize dt1 i=s1 at *
  generalize dp2 i=q2 at *
  generalize dn2 i=m2 at *
  generalize dc2 i=d2 at *
  generalize dp3 i=q3 at *
  generalize dn3 i=m3 at *
  generalize dc3 i=d3 at *
  generalize dE i=XE at *
  generalize dB i=XB at *
  have HL0:=hid (show (flB i FD++(dhL s0 s1 XE++XB)).length≤1000000000000 by rw[←HSN.out];exact HLE.out)
  generalize flB i FD=C at *
  have HE:=hid (CA.new wr #[I J s0,I J s1,V q2 m2 d2,V q3 m3 d3] 64)
  have HF1:=hid (HF.out.alloc (Qc #[I J s0,I J s1,V q2 m2 d2,V q3 m3 d3] 64))
  have HR1:=hid (own_kept HR.out ((QB _ _).alloc (Ql _) (Qc #[I J s0,I J s1,V q2 m2 d2,V q3 m3 d3] 64)))
  have HSZ:Hid (wC.heap.size≤wC.heap.size):=Ql _
  have HSM:=hid (show wr.heap.size<(wr.alloc (Qc #[I J s0,I J s1,V q2 m2 d2,V q3 m3 d3] 64)).heap.size by rw[size_al];exact Nat.lt_succ_self _)
  rcases KM.out with rfl|hm
  ·have HDH:=hid (show dhL 1 s1 XE=[1] from rfl)
   have HNa:=hid (show C.length+([1]:List UInt8).length≤140737488355000 by have:=HL0.out;simp only[QA,QC,QN]at *;omega)
   have hl:=own_litc (wr.alloc (Qc #[I J 1,I J s1,V q2 m2 d2,V q3 m3 d3] 64)) 1 1 rfl
   rw[size_al]at hl
   have HL:=hid (own_less hl (Nat.le_succ_of_le HF.out.size))
   have HF2:=hid (HF1.out.alloc (Qc #[.int .u8 1] 5))
   have HE2:=hid (HE.out.alloc (Qc #[.int .u8 1] 5))
   clear hl
   go_upto_region 33 with (at_builtin;refine append_rowW rfl _ _ rfl wC.heap.size _ _ _ _ _ ((wr.alloc (Qc #[I J 1,I J s1,V q2 m2 d2,V q3 m3 d3] 64)).alloc (Qc #[.int .u8 1] 5)) (own_kept HR1.out ((QB _ _).alloc (Ql _) _)) HL.out HNa.out HF2.out.size (RF.refl _ _) rfl rfl ?_;intro p1 m1 c1 w1 ho3 hf3;have HA1:=hid ho3;have HQ1:=hid (HF2.out.trans hf3);have HE3:=hid (HE2.out.rf hf3 (by decide));clear ho3 hf3)
   clear HR HR1 HF HF1 HF2 HE HE2 HX yf x0 x1 x2 x3
   have HNt:=hid (show (C++[1]).length+XB.length≤140737488355000 by have:=HL0.out;simp only[HDH.out,QA,QC,QN]at this;simp only[QA,QC,QN];omega)
   have v3:=HE3.out.at (k:=3) (v:=V q3 m3 d3) rfl
   have HBy:=hid (HBW.out.trans ((HQ1.out.below (Ql _)).mono HBW.out.size))
   go_wp2_with (first
    |(go_at_call 135;(with_reducible refine (KY _ HBy.out).out.mono ?_);rintro e wy ⟨v,rfl,ho,hb⟩;obtain ⟨py,my,cy,rfl⟩:=own_slice ho;have HOy:=hid ho;have HAy:=hid (own_kept HA1.out hb);have HQy:=hid (HQ1.out.trans (RF.of hb));clear ho hb)
    |(at_builtin;refine append_rowW rfl _ _ rfl wC.heap.size _ _ _ _ _ wy HAy.out HOy.out HNt.out HQy.out.size (RF.refl _ _) rfl rfl ?_;intro pz mz cz wz ho3 hf3;have HAz:=hid ho3;have HQz:=hid (HQy.out.trans hf3);clear ho3 hf3))
   go_roundw
   case rel =>
    refine ⟨i+1,pz,mz,cz,hlt,by go_num,rfl,?_,HQz⟩
    have h:=HAz.out
    rw[HSN.out,HDH.out]
    simpa[Hid,QS]using h
   case measure=>simp[intOf];omega
  have hm1:(s0==1)=false:=by simpa using hm
  have hm2:decide (s0=1)=false:=by simpa using hm
  have HMN:=hid hm
  clear hm
  by_cases ht:s1=0
  ·subst ht
   have HDH:=hid (show dhL s0 0 XE=[0]++XE by unfold dhL;rw[if_neg HMN.out,if_pos rfl])
   have HNa:=hid (show C.length+([0]:List UInt8).length≤140737488355000 by have:=HL0.out;simp only[QA,QC,QN]at *;omega)
   have HNb:=hid (show (C++[0]).length+XE.length≤140737488355000 by have:=HL0.out;simp only[HDH.out,QA,QC,QN]at *;omega)
   go_upto_region 30 with fail
   have hS:RF wC.heap.size wC (wr.alloc (Qc #[I J s0,I J 0,V q2 m2 d2,V q3 m3 d3] 64)).drew∧CA wr.heap.size #[I J s0,I J 0,V q2 m2 d2,V q3 m3 d3] 64 (wr.alloc (Qc #[I J s0,I J 0,V q2 m2 d2,V q3 m3 d3] 64)).drew:=⟨HF1.out.drew,HE.out⟩
   have HOB:Hid ((wr.alloc (Qc #[I J s0,I J 0,V q2 m2 d2,V q3 m3 d3] 64)).drew.ownsRow wC.heap.size 5 1 (V p0 m0 c0) C.length (QY C)):=HR1
   clear HR HR1 HF HF1 HE HX yf x0 x1 x2 x3
   refine wp_region_held_drew (S:=fun W=>RF wC.heap.size wC W∧CA wr.heap.size #[I J s0,I J 0,V q2 m2 d2,V q3 m3 d3] 64 W) (by kernel_rfl) hS (fun _=>?_)
   generalize (wr.alloc (Qc #[I J s0,I J 0,V q2 m2 d2,V q3 m3 d3] 64)).drew=W at *
   refine zt 0 (V p0 m0 c0) rfl ?_ ?_
   ·(intro W hSw;have x0:=hSw.2.at (k:=0) (v:=I J s0) rfl;have x1:=hSw.2.at (k:=1) (v:=I J 0) rfl;have x2:=hSw.2.at (k:=2) (v:=V q2 m2 d2) rfl;have x3:=hSw.2.at (k:=3) (v:=V q3 m3 d3) rfl;go_simp;try (exact wrap_b8 _);try (with_reducible rfl))
   try simp only[Qu,sl2,sl0,sl1]
   refine zt 3 (Qp (some ⟨wr.heap.size,2,none⟩)) rfl ?_ ?_
   ·(intro W hSw;have x0:=hSw.2.at (k:=0) (v:=I J s0) rfl;have x1:=hSw.2.at (k:=1) (v:=I J 0) rfl;have x2:=hSw.2.at (k:=2) (v:=V q2 m2 d2) rfl;have x3:=hSw.2.at (k:=3) (v:=V q3 m3 d3) rfl;go_simp;try (exact wrap_b8 _);try (with_reducible rfl))
   try simp only[Qu,sl2,sl0,sl1]
   refine zt 4 (V q2 m2 d2) rfl ?_ ?_
   ·(intro W hSw;have x0:=hSw.2.at (k:=0) (v:=I J s0) rfl;have x1:=hSw.2.at (k:=1) (v:=I J 0) rfl;have x2:=hSw.2.at (k:=2) (v:=V q2 m2 d2) rfl;have x3:=hSw.2.at (k:=3) (v:=V q3 m3 d3) rfl;go_simp;try (exact wrap_b8 _);try (with_reducible rfl))
   try simp only[Qu,sl2,sl0,sl1]
   refine zr 1 rfl (fun K hK=>?_)
   go_simp
   have HOL:=hid (own_less (own_litc W 0 0 rfl) (show wC.heap.size≤W.heap.size from Qk HSZ.out hS.1.size))
   (try replace HOB:=hid (own_kept HOB.out ((QB W.heap.size W).alloc (Ql _) (Qc #[.int .u8 0] 5))))
   (try replace HOM:=hid (own_kept HOM.out ((QB W.heap.size W).alloc (Ql _) (Qc #[.int .u8 0] 5))))
   (try replace HOT:=hid (own_kept HOT.out ((QB W.heap.size W).alloc (Ql _) (Qc #[.int .u8 0] 5))))
   (try replace HOU:=hid (own_kept HOU.out ((QB W.heap.size W).alloc (Ql _) (Qc #[.int .u8 0] 5))))
   (try replace HOE:=hid (own_kept HOE.out ((QB W.heap.size W).alloc (Ql _) (Qc #[.int .u8 0] 5))))
   (try replace HOZ:=hid (own_kept HOZ.out ((QB W.heap.size W).alloc (Ql _) (Qc #[.int .u8 0] 5))))
   replace hS:=And.intro (hS.1.alloc (Qc #[.int .u8 0] 5)) (hS.2.alloc (Qc #[.int .u8 0] 5))
   generalize W.alloc (Qc #[.int .u8 0] 5)=W1 at *
   generalize W.heap.size=nL at *
   refine hK.out _ _ hS (fun _=>?_)
   clear hK K
   try simp only[Qu,sl2,sl0,sl1]
   refine zr 2 rfl (fun K hK=>?_)
   refine append_rowS rfl (.tmp 106) (.tmp 107) rfl wC.heap.size _ _ _ _ _ wC HOB.out HOL.out HNa.out (Ql _) hS.1 rfl rfl ?_
   intro pM mM cM W2 ho3 hr
   replace hS:=And.intro (hS.1.trans hr) (hS.2.rf hr (by decide))
   have HOM:=hid ho3
   clear ho3 hr HOB HOL
   refine hK.out _ _ hS (fun _=>?_)
   clear hK K
   try simp only[Qu,sl2,sl0,sl1]
   refine zr 5 rfl (fun K hK=>?_)
   go_simp
   go_at_call 27
   (with_reducible refine ((KE W2 (HBW.out.trans ((hS.1.below (Ql _)).mono HBW.out.size))).out).mono ?_)
   rintro e W3 ⟨v,rfl,ho,hb⟩
   obtain ⟨pE,mE,cE,rfl⟩:=own_slice ho
   have HOE:=hid (own_less ho (Qk HSZ.out hS.1.size))
   (try replace HOB:=hid (own_kept HOB.out hb))
   (try replace HOL:=hid (own_kept HOL.out hb))
   (try replace HOM:=hid (own_kept HOM.out hb))
   (try replace HOT:=hid (own_kept HOT.out hb))
   (try replace HOU:=hid (own_kept HOU.out hb))
   (try replace HOZ:=hid (own_kept HOZ.out hb))
   replace hS:=And.intro (hS.1.trans (RF.of hb)) (hS.2.below hb hS.2.lt)
   clear ho hb
   refine hK.out _ _ hS (fun _=>?_)
   clear hK K
   try simp only[Qu,sl2,sl0,sl1]
   refine zr 6 rfl (fun K hK=>?_)
   refine append_rowS rfl (.tmp 108) (.tmp 111) rfl wC.heap.size _ _ _ _ _ wC HOM.out HOE.out HNb.out (Ql _) hS.1 rfl rfl ?_
   intro pZ mZ cZ W4 ho3 hr
   replace hS:=And.intro (hS.1.trans hr) (hS.2.rf hr (by decide))
   have HOZ:=hid ho3
   clear ho3 hr HOM HOE
   refine hK.out _ _ hS (fun _=>?_)
   clear hK K
   try simp only[Qu,sl2,sl0,sl1]
   refine zt 7 (V pZ mZ cZ) rfl ?_ ?_
   ·(intro W hSw;have x0:=hSw.2.at (k:=0) (v:=I J s0) rfl;have x1:=hSw.2.at (k:=1) (v:=I J 0) rfl;have x2:=hSw.2.at (k:=2) (v:=V q2 m2 d2) rfl;have x3:=hSw.2.at (k:=3) (v:=V q3 m3 d3) rfl;go_simp;try (exact wrap_b8 _);try (with_reducible rfl))
   try simp only[Qu,sl2,sl0,sl1]
   refine wpAnyH_done (by kernel_rfl) ?_ _
   have HQ9:=hid hS.1
   have HE9:=hid hS.2
   clear hS
   have HNt:=hid (show (C++[0]++XE).length+XB.length≤140737488355000 by have:=HL0.out;simp only[HDH.out,QA,QC,QN]at this;simp only[QA,QC,QN];omega)
   have v3:=HE9.out.at (k:=3) (v:=V q3 m3 d3) rfl
   have HBy:=hid (HBW.out.trans ((HQ9.out.below (Ql _)).mono HBW.out.size))
   go_wp2_with (first
    |(go_at_call 135;(with_reducible refine (KY _ HBy.out).out.mono ?_);rintro e wy ⟨v,rfl,ho,hb⟩;obtain ⟨py,my,cy,rfl⟩:=own_slice ho;have HOy:=hid ho;have HAy:=hid (own_kept HOZ.out hb);have HQy:=hid (HQ9.out.trans (RF.of hb));clear ho hb)
    |(at_builtin;refine append_rowW rfl _ _ rfl wC.heap.size _ _ _ _ _ wy HAy.out HOy.out HNt.out HQy.out.size (RF.refl _ _) rfl rfl ?_;intro pz mz cz wz ho3 hf3;have HAz:=hid ho3;have HQz:=hid (HQy.out.trans hf3);clear ho3 hf3))
   go_roundw
   case rel =>
    refine ⟨i+1,pz,mz,cz,hlt,by go_num,rfl,?_,HQz⟩
    have h:=HAz.out
    rw[HSN.out,HDH.out]
    simpa[Hid,QS]using h
   case measure=>simp[intOf];omega
  have ht1:(s1==0)=false:=by simpa using ht
  have ht2:decide (s1=0)=false:=by simpa using ht
  have HDH:=hid (show dhL s0 s1 XE=[2]++uI s1++XE by unfold dhL;rw[if_neg HMN.out,if_neg ht])
  have HNa:=hid (show C.length+([2]:List UInt8).length≤140737488355000 by have:=HL0.out;simp only[QA,QC,QN]at *;omega)
  have HNb:=hid (show (C++[2]).length+(uI s1).length≤140737488355000 by have:=HL0.out;have:=uI_len s1;simp only[HDH.out,QA,QC,QN]at *;omega)
  have HNc:=hid (show (C++[2]++uI s1).length+XE.length≤140737488355000 by have:=HL0.out;simp only[HDH.out,QA,QC,QN]at *;omega)
  clear ht
  go_upto_region 31 with fail
  have hS:RF wC.heap.size wC (wr.alloc (Qc #[I J s0,I J s1,V q2 m2 d2,V q3 m3 d3] 64)).drew∧CA wr.heap.size #[I J s0,I J s1,V q2 m2 d2,V q3 m3 d3] 64 (wr.alloc (Qc #[I J s0,I J s1,V q2 m2 d2,V q3 m3 d3] 64)).drew:=⟨HF1.out.drew,HE.out⟩
  have HOB:Hid ((wr.alloc (Qc #[I J s0,I J s1,V q2 m2 d2,V q3 m3 d3] 64)).drew.ownsRow wC.heap.size 5 1 (V p0 m0 c0) C.length (QY C)):=HR1
  clear HR HR1 HF HF1 HE HX yf x0 x1 x2 x3
  refine wp_region_held_drew (S:=fun W=>RF wC.heap.size wC W∧CA wr.heap.size #[I J s0,I J s1,V q2 m2 d2,V q3 m3 d3] 64 W) (by kernel_rfl) hS (fun _=>?_)
  generalize (wr.alloc (Qc #[I J s0,I J s1,V q2 m2 d2,V q3 m3 d3] 64)).drew=W at *
  refine zt 0 (V p0 m0 c0) rfl ?_ ?_
  ·(intro W hSw;have x0:=hSw.2.at (k:=0) (v:=I J s0) rfl;have x1:=hSw.2.at (k:=1) (v:=I J s1) rfl;have x2:=hSw.2.at (k:=2) (v:=V q2 m2 d2) rfl;have x3:=hSw.2.at (k:=3) (v:=V q3 m3 d3) rfl;go_simp;try (exact wrap_b8 _);try (with_reducible rfl))
  try simp only[Qu,sl2,sl0,sl1]
  refine zt 3 (Qp (some ⟨wr.heap.size,1,none⟩)) rfl ?_ ?_
  ·(intro W hSw;have x0:=hSw.2.at (k:=0) (v:=I J s0) rfl;have x1:=hSw.2.at (k:=1) (v:=I J s1) rfl;have x2:=hSw.2.at (k:=2) (v:=V q2 m2 d2) rfl;have x3:=hSw.2.at (k:=3) (v:=V q3 m3 d3) rfl;go_simp;try (exact wrap_b8 _);try (with_reducible rfl))
  try simp only[Qu,sl2,sl0,sl1]
  refine zt 4 (I J s1) rfl ?_ ?_
  ·(intro W hSw;have x0:=hSw.2.at (k:=0) (v:=I J s0) rfl;have x1:=hSw.2.at (k:=1) (v:=I J s1) rfl;have x2:=hSw.2.at (k:=2) (v:=V q2 m2 d2) rfl;have x3:=hSw.2.at (k:=3) (v:=V q3 m3 d3) rfl;go_simp;try (exact wrap_b8 _);try (with_reducible rfl))
  try simp only[Qu,sl2,sl0,sl1]
  refine zr 1 rfl (fun K hK=>?_)
  go_simp
  have HOL:=hid (own_less (own_litc W 2 2 rfl) (show wC.heap.size≤W.heap.size from Qk HSZ.out hS.1.size))
  (try replace HOB:=hid (own_kept HOB.out ((QB W.heap.size W).alloc (Ql _) (Qc #[.int .u8 2] 5))))
  (try replace HOM:=hid (own_kept HOM.out ((QB W.heap.size W).alloc (Ql _) (Qc #[.int .u8 2] 5))))
  (try replace HOT:=hid (own_kept HOT.out ((QB W.heap.size W).alloc (Ql _) (Qc #[.int .u8 2] 5))))
  (try replace HOU:=hid (own_kept HOU.out ((QB W.heap.size W).alloc (Ql _) (Qc #[.int .u8 2] 5))))
  (try replace HOE:=hid (own_kept HOE.out ((QB W.heap.size W).alloc (Ql _) (Qc #[.int .u8 2] 5))))
  (try replace HOZ:=hid (own_kept HOZ.out ((QB W.heap.size W).alloc (Ql _) (Qc #[.int .u8 2] 5))))
  replace hS:=And.intro (hS.1.alloc (Qc #[.int .u8 2] 5)) (hS.2.alloc (Qc #[.int .u8 2] 5))
  generalize W.alloc (Qc #[.int .u8 2] 5)=W1 at *
  generalize W.heap.size=nL at *
  refine hK.out _ _ hS (fun _=>?_)
  clear hK K
  try simp only[Qu,sl2,sl0,sl1]
  refine zr 2 rfl (fun K hK=>?_)
  refine append_rowS rfl (.tmp 113) (.tmp 114) rfl wC.heap.size _ _ _ _ _ wC HOB.out HOL.out HNa.out (Ql _) hS.1 rfl rfl ?_
  intro pM mM cM W2 ho3 hr
  replace hS:=And.intro (hS.1.trans hr) (hS.2.rf hr (by decide))
  have HOM:=hid ho3
  clear ho3 hr HOB HOL
  refine hK.out _ _ hS (fun _=>?_)
  clear hK K
  try simp only[Qu,sl2,sl0,sl1]
  refine zr 5 rfl (fun K hK=>?_)
  go_simp
  go_at_call 133
  (with_reducible refine (RU_says s1 W2).mono ?_)
  rintro e W3 ⟨v,rfl,ho,hb⟩
  obtain ⟨pT,mT,cT,rfl⟩:=own_slice ho
  have HOT:=hid (own_less ho (Qk HSZ.out hS.1.size))
  (try replace HOB:=hid (own_kept HOB.out hb))
  (try replace HOL:=hid (own_kept HOL.out hb))
  (try replace HOM:=hid (own_kept HOM.out hb))
  (try replace HOU:=hid (own_kept HOU.out hb))
  (try replace HOE:=hid (own_kept HOE.out hb))
  (try replace HOZ:=hid (own_kept HOZ.out hb))
  replace hS:=And.intro (hS.1.trans (RF.of hb)) (hS.2.below hb hS.2.lt)
  clear ho hb
  refine hK.out _ _ hS (fun _=>?_)
  clear hK K
  try simp only[Qu,sl2,sl0,sl1]
  refine zr 6 rfl (fun K hK=>?_)
  refine append_rowS rfl (.tmp 115) (.tmp 118) rfl wC.heap.size _ _ _ _ _ wC HOM.out HOT.out HNb.out (Ql _) hS.1 rfl rfl ?_
  intro pU mU cU W4 ho3 hr
  replace hS:=And.intro (hS.1.trans hr) (hS.2.rf hr (by decide))
  have HOU:=hid ho3
  clear ho3 hr HOM HOT
  refine hK.out _ _ hS (fun _=>?_)
  clear hK K
  try simp only[Qu,sl2,sl0,sl1]
  refine zt 7 (V pU mU cU) rfl ?_ ?_
  ·(intro W hSw;have x0:=hSw.2.at (k:=0) (v:=I J s0) rfl;have x1:=hSw.2.at (k:=1) (v:=I J s1) rfl;have x2:=hSw.2.at (k:=2) (v:=V q2 m2 d2) rfl;have x3:=hSw.2.at (k:=3) (v:=V q3 m3 d3) rfl;go_simp;try (exact wrap_b8 _);try (with_reducible rfl))
  try simp only[Qu,sl2,sl0,sl1]
  refine wpAnyH_done (by kernel_rfl) ?_ _
  have HQ9:=hid hS.1
  have HE9:=hid hS.2
  clear hS
  have HB9:=hid (HBW.out.trans ((HQ9.out.below (Ql _)).mono HBW.out.size))
  have u0:=HE9.out.at (k:=0) (v:=I J s0) rfl;have u1:=HE9.out.at (k:=1) (v:=I J s1) rfl;have u2:=HE9.out.at (k:=2) (v:=V q2 m2 d2) rfl;have u3:=HE9.out.at (k:=3) (v:=V q3 m3 d3) rfl
  generalize hW9:W4=w9 at *
  clear hW9
  go_upto_region 33 with (first
   |(go_at_call 27;(with_reducible refine (KE _ HB9.out).out.mono ?_);rintro e w10 ⟨v,rfl,ho,hb⟩;obtain ⟨p10,m10,c10,rfl⟩:=own_slice ho;have HO10:=hid ho;have HA10:=hid (own_kept HOU.out hb);have HQ10:=hid (HQ9.out.trans (RF.of hb));have HE10:=Qe HE9 hb;clear ho hb)
   |(at_builtin;refine append_rowW rfl _ _ rfl wC.heap.size _ _ _ _ _ w10 HA10.out HO10.out HNc.out HQ10.out.size (RF.refl _ _) rfl rfl ?_;intro p11 m11 c11 w11 ho3 hf3;have HA11:=hid ho3;have HQ11:=hid (HQ10.out.trans hf3);have HE11:=hid (HE10.out.rf hf3 (by decide));clear ho3 hf3))
  clear u0 u1 u2 u3
  have HNt:=hid (show (C++[2]++uI s1++XE).length+XB.length≤140737488355000 by have:=HL0.out;simp only[HDH.out,QA,QC,QN]at this;simp only[QA,QC,QN];omega)
  have v3:=HE11.out.at (k:=3) (v:=V q3 m3 d3) rfl
  have HBy:=hid (HBW.out.trans ((HQ11.out.below (Ql _)).mono HBW.out.size))
  go_wp2_with (first
   |(go_at_call 135;(with_reducible refine (KY _ HBy.out).out.mono ?_);rintro e wy ⟨v,rfl,ho,hb⟩;obtain ⟨py,my,cy,rfl⟩:=own_slice ho;have HOy:=hid ho;have HAy:=hid (own_kept HA11.out hb);have HQy:=hid (HQ11.out.trans (RF.of hb));clear ho hb)
   |(at_builtin;refine append_rowW rfl _ _ rfl wC.heap.size _ _ _ _ _ wy HAy.out HOy.out HNt.out HQy.out.size (RF.refl _ _) rfl rfl ?_;intro pz mz cz wz ho3 hf3;have HAz:=hid ho3;have HQz:=hid (HQy.out.trans hf3);clear ho3 hf3))
  go_roundw
  case rel =>
   refine ⟨i+1,pz,mz,cz,hlt,by go_num,rfl,?_,HQz⟩
   have h:=HAz.out
   rw[HSN.out,HDH.out]
   simpa[Hid,QS]using h
  case measure=>simp[intOf];omega
 have hie:dn=i:=by omega
 subst hie
 have HOW1:=hid (own_kept HOW.out (HF.out.below (Ql _)))
 clear yf hi hlt
 have yf:=HX.out.at (k:=9) (v:=V dp dn dc) rfl
 go_wp2_with (first
  |(go_at_call 132;(with_reducible refine (HS2.out _ _ _ HR.out).mono ?_);rintro e w2 ⟨v,rfl,ho,hb⟩;obtain ⟨pB,mB,cB,rfl⟩:=own_slice ho;have HOB:=hid ho;have HOW2:=hid (own_kept HOW1.out hb);have HB2:=Qd HB hb;have HX2:=Qe HX hb;clear ho hb)
  |(at_builtin;refine append_rowW rfl _ _ rfl w.heap.size _ _ _ _ _ w2 HOW2.out HOB.out HNa2.out HB2.out.size (RF.refl _ _) rfl rfl ?_;intro pA2 mA2 cA2 wD ho3 hf3;have HOWn:=hid ho3;have HB3:=hid (HB2.out.trans (hf3.below HB2.out.size));have HX3:=hid (HX2.out.rf hf3 (by decide));clear ho3 hf3))
 go_ret2
 exact ⟨_,rfl,HOWn.out,HB3.out⟩
theorem run_appY (w:World) (B L:Nat) (ty:TypeId) (xs ys:List UInt8) (v:Value) (p:Option Addr) (c:Nat) (hown:w.ownsRow B 5 1 v xs.length (QY xs)) (hy:YO L w p c ys) (hn:xs.length+ys.length≤140737488355000) (hB:B≤w.heap.size) :
  ∃v' w',(Builtin.append_ #[52,52] ty #[v,V p ys.length c]).run QP w=.ok v' w'∧w'.ownsRow B 5 1 v' (xs++ys).length (QY (xs++ys))∧w.grownBy w' v.ownBlock:=by
 obtain ⟨i0,hi,hz0,hz1,hz2⟩:=info_parts info5
 cases p with
 |none =>
  obtain rfl:ys=[]:=by
   by_cases h:ys=[]
   ·exact h
   obtain ⟨g,o,e,_⟩:=hy.2 h
   cases e
  have hr:=run_append_owned_none (P:=QP) (w:=w) B 52 ty 5 i0 1 Tryz.underlying52 hi v xs.length (QY xs) hown
  refine ⟨v,w,?_,by rw[List.append_nil];exact hown,⟨rfl,rfl,rfl,Ql _,fun _ _ _=>rfl⟩⟩
  exact hr
 |some ad =>
  obtain ⟨v',w',h1,h2,h3,_⟩:=run_app5 w B ty v xs.length (QY xs) hown ad ys.length c (QY ys) (Lib.byteCells_length ys) (fun j u hj=>by
   by_cases h:ys=[]
   ·subst h
    simp[QY]at hj
   obtain ⟨g,o,e,hg,hc⟩:=hy.2 h
   injection e with e
   subst e
   simp only[QY,List.getElem?_map,Option.map_eq_some_iff]at hj
   obtain ⟨x,hx,rfl⟩:=hj
   rw[addr_add]
   exact hc j x hx) (byteCells_one ys) (by omega) hB
  exact ⟨v',w',h1,by rw[QA,Lib.byteCells_append];exact h2,h3⟩
theorem append_rowY {w:World} {ops:Array Oper} {rest:List Oper} {o:Oper} {a:Act} {Q:Exit→Act→World→Prop} (hgd:o.guard=none) (s x:Operand)
  (ho:o.op=.call { callee:=.builtin .append,args:=#[s,x],argTypes:=#[52,52] }) (B L:Nat) (xs ys:List UInt8) (v:Value) (p:Option Addr) (c n:Nat) (W0:World) (hown:w.ownsRow B 5 1 v xs.length (QY xs)) (hy:YO L w p c ys) (hnl:n=ys.length)
  (hn:xs.length+ys.length≤140737488355000) (hB:B≤W0.heap.size) (hf:RF B W0 w) (hs:a.eval s=v) (hx:a.eval x=V p n c)
  (h:∀p m c w',w'.ownsRow B 5 1 (V p m c) (xs++ys).length (QY (xs++ys))→RF B W0 w'→wpList QP ops Q rest (a.put o.dst (V p m c)) w') :
  wpList QP ops Q (o::rest) a w:=by
 subst hnl
 refine wpList_plain hgd fun K hK=>?_
 obtain ⟨v',w',hrun,r1,r2⟩:=run_appY w B L o.type xs ys v p c hown hy hn (Qk hB hf.size)
 obtain ⟨p,m,c,rfl⟩:=own_slice r1
 unfold Oper.wp
 simp[execOp,ho,resolve,invoke,builtin,hs,hx,hrun,Result.andThen]
 exact hK _ _ (h _ _ _ _ r1 (hf.trans (RF.grown hown r2)))
theorem listedY_says (n:Nat) (p:Option Addr) (c:Nat) (ys:List UInt8) (L:Nat) (w:World) (hL:L≤w.heap.size) (hy:YO L w p c ys) (hnl:n=ys.length) (hn:ys.length+20≤140737488355000):Calls QP 135 #[I J n,V p n c] w (BO w (uI n++ys)):=by
 have HY:=hid hy
 have HL:=hid hL
 have HNL:=hid hnl
 have HU:=fun W=>hid (RU_says n W)
 have HN:=hid (show (uI n).length+ys.length≤140737488355000 by have:=uI_len n;omega)
 clear hy hn hL hnl
 go_enter Tryz.func135,Tryz.ntmps135
 go_wp2_with (first
  |(go_at_call 133;(with_reducible refine (HU _).out.mono ?_);rintro e w1 ⟨v1,rfl,ho1,hb1⟩;obtain ⟨p1,m1,c1,rfl⟩:=own_slice ho1;have HO1:=hid ho1;have HB1:=hid hb1;have HO2:=hid (HY.out.below (hb1.mono HL.out));clear ho1 hb1)
  |(at_builtin;refine append_rowY rfl _ _ rfl w.heap.size _ _ _ _ _ _ _ w HO1.out HO2.out HNL.out HN.out (Ql _) (RF.of HB1.out) rfl rfl ?_;intro p3 m3 c3 w3 ho3 hf3;have HO3:=hid ho3;have HF3:=hid hf3;clear ho3 hf3))
 go_ret
 exact ⟨_,rfl,HO3.out,HF3.out.below (Ql _)⟩
section
variable {M:MD} {w:World}
theorem exprM {f:Fo} {p:Option Addr} {c B:Nat} {W:World} (hk:CO B W p c f) (hB:B≤W.heap.size) (h0:0≤wg f 0 3000) (hok:okE f):Calls QP 27 #[V p f.len c] W (BO W (codL f)) :=
 ExprR_says B f (few_lt h0) hok (by have:=few_siz h0;omega) _ W hB hk.1
theorem codR_len {f:Fo} (h0:0≤wg f 0 3000) (hok:okE f):(codL f).length≤70000000:=by
 have h1:=enc_siz f hok
 have h2:=few_siz h0
 unfold codL
 simp only[QA,QC,QN]
 omega
theorem heads_M (h:M.ok w.heap.size w) (hf:FitM M) (hmf:MayF M):Calls QP 129 #[M.val] w (BO w (headsL M)):=by
 have b1:=flB_small (n:=M.tn) (P:=fun i=>mtL (M.t i)) (k:=3000) hf.tn (fun i hi=>mtL_len _ (hf.t i hi).1 (hf.t i hi).2) (by decide)
 have b2:=flB_small (n:=M.imn) (P:=fun i=>miL (M.im i)) (k:=3000) hf.imn (fun i hi=>miL_len _ (hf.im i hi).1 (hf.im i hi).2) (by decide)
 have b3:=flB_small (n:=M.fn) (P:=fun i=>uI (M.f i).ty) (k:=10) (Qk hf.fn (by decide)) (fun i hi=>uI_len _) (by decide)
 have e2:(fun i=>miL (M.im i))=(fun i=>strL (M.im i).s0++strL (M.im i).s1++[byI (M.im i).kd]++tlL (M.im i).kd (M.im i).ty (M.im i).tr (M.im i).tmn (M.im i).tmx (M.im i).th (M.im i).mmn (M.im i).mmx (M.im i).mh (M.im i).gt (M.im i).gm):=by
  funext i
  simp[miL,tlL]
 have:=Rheads_says M.tp M.imp M.fp M.tbp M.mp M.gp M.xp M.ep M.dp M.tn M.tc M.imn M.imc M.fn M.fc M.tbn M.tbc M.mn M.mc M.gn M.gc M.xn M.xc M.en M.ec M.dn M.dc M.st M.cnt
  M.tg M.tw (fun i=>(M.t i).pa) (fun i=>(M.t i).a.length) (fun i=>(M.t i).ca) (fun i=>(M.t i).pb) (fun i=>(M.t i).b.length) (fun i=>(M.t i).cb) (fun i=>(M.t i).a.map byI) (fun i=>(M.t i).b.map byI)
  M.img M.imw (fun i=>(M.im i).s0) (fun i=>(M.im i).s1) (fun i=>(M.im i).kd) (fun i=>(M.im i).ty) (fun i=>(M.im i).tr) (fun i=>(M.im i).tmn) (fun i=>(M.im i).tmx) (fun i=>(M.im i).th) (fun i=>(M.im i).mmn) (fun i=>(M.im i).mmx) (fun i=>(M.im i).mh) (fun i=>(M.im i).gt) (fun i=>(M.im i).gm)
  M.fg M.fw (fun i=>(M.f i).ty) w
  h.tr.1 h.tr.2.1 (fun i hi=>⟨h.tr.2.2 i hi 0 _ rfl,h.tr.2.2 i hi 1 _ rfl⟩)
  h.imr.1 h.imr.2.1 (fun i hi=>⟨h.imr.2.2 i hi 0 _ rfl,h.imr.2.2 i hi 1 _ rfl,h.imr.2.2 i hi 2 _ rfl,h.imr.2.2 i hi 3 _ rfl,h.imr.2.2 i hi 4 _ rfl,h.imr.2.2 i hi 5 _ rfl,h.imr.2.2 i hi 6 _ rfl,h.imr.2.2 i hi 7 _ rfl,h.imr.2.2 i hi 8 _ rfl,h.imr.2.2 i hi 9 _ rfl,h.imr.2.2 i hi 10 _ rfl,h.imr.2.2 i hi 11 _ rfl,h.imr.2.2 i hi 12 _ rfl⟩)
  h.fr.1 h.fr.2.1 (fun i hi=>h.fr.2.2 i hi 0 _ rfl)
  (fun i hi W hW=>octets_says (M.t i).a _ w.heap.size W ((h.tz i hi).below hW).h0.1 hW.size (by have:=(hf.t i hi).1;omega))
  (fun i hi W hW=>octets_says (M.t i).b _ w.heap.size W ((h.tz i hi).below hW).h1.1 hW.size (by have:=(hf.t i hi).2;omega))
  (fun i hi=>by have:=hmf.im i hi;simp[kindB]at this;omega) (fun i hi=>hf.im i hi) b1 (by rw[←e2];exact b2) b3
 rw[←e2]at this
 exact this
theorem mid_M (h:M.ok w.heap.size w) (hf:FitM M) (hmf:MayF M) (hst:0≤M.st):Calls QP 130 #[M.val] w (BO w (midL M)):=by
 have b1:=flB_small (n:=M.tbn) (P:=fun i=>mbL (M.tb i)) (k:=30) hf.tbn (fun i hi=>(by have:=limR_len (M.tb i).mn (M.tb i).mx (M.tb i).h;simp only[mbL,tabL,QC];omega)) (by decide)
 have b2:=flB_small (n:=M.mn) (P:=fun i=>mlL (M.m i)) (k:=30) hf.mn (fun i hi=>(by have:=limR_len (M.m i).mn (M.m i).mx (M.m i).h;simp only[mlL];omega)) (by decide)
 have b3:=flB_small (n:=M.gn) (P:=fun i=>mgL (M.g i)) (k:=70000010) (Qk hf.gn (by decide)) (fun i hi=>(by have:=codR_len (hf.g i hi) (hmf.g i hi);simp only[mgL,gloL,QA,QC,QN];omega)) (by decide)
 have b4:=flB_small (n:=M.xn) (P:=fun i=>mxL (M.x i)) (k:=3000) hf.xn (fun i hi=>(by have h1:=strL_len (M.x i).s;have h2:=uI_len (M.x i).ix;have h3:=hf.x i hi;simp only[mxL,QA,QC];omega)) (by decide)
 have e4:(fun i=>mxL (M.x i))=(fun i=>strL (M.x i).s++[byI (M.x i).k]++uI (M.x i).ix):=by
  funext i
  simp[mxL]
 have:=Rmid_says M.tp M.imp M.fp M.tbp M.mp M.gp M.xp M.ep M.dp M.tn M.tc M.imn M.imc M.fn M.fc M.tbn M.tbc M.mn M.mc M.gn M.gc M.xn M.xc M.en M.ec M.dn M.dc M.st M.cnt
  M.tbg M.tbw (fun i=>(M.tb i).r) (fun i=>(M.tb i).mn) (fun i=>(M.tb i).mx) (fun i=>(M.tb i).h)
  M.mg M.mw (fun i=>(M.m i).mn) (fun i=>(M.m i).mx) (fun i=>(M.m i).h)
  M.gg M.gw (fun i=>(M.g i).t) (fun i=>(M.g i).m) (fun i=>(M.g i).pf) (fun i=>(M.g i).f.len) (fun i=>(M.g i).cf)
  M.xg M.xw (fun i=>(M.x i).s) (fun i=>(M.x i).k) (fun i=>(M.x i).ix) (fun i=>codL (M.g i).f) w
  h.tbr.1 h.tbr.2.1 (fun i hi=>⟨h.tbr.2.2 i hi 0 _ rfl,h.tbr.2.2 i hi 1 _ rfl,h.tbr.2.2 i hi 2 _ rfl,h.tbr.2.2 i hi 3 _ rfl⟩)
  h.mr.1 h.mr.2.1 (fun i hi=>⟨h.mr.2.2 i hi 0 _ rfl,h.mr.2.2 i hi 1 _ rfl,h.mr.2.2 i hi 2 _ rfl⟩)
  h.gr.1 h.gr.2.1 (fun i hi=>⟨h.gr.2.2 i hi 0 _ rfl,h.gr.2.2 i hi 1 _ rfl,h.gr.2.2 i hi 2 _ rfl⟩)
  h.xr.1 h.xr.2.1 (fun i hi=>⟨h.xr.2.2 i hi 0 _ rfl,h.xr.2.2 i hi 1 _ rfl,h.xr.2.2 i hi 2 _ rfl⟩)
  (fun i hi W hW=>exprM ((h.gz i hi).below hW).h1 hW.size (hf.g i hi) (hmf.g i hi)) (fun i hi=>hf.x i hi) ⟨hst,by have:=h.stk;exact this.2⟩ b1 b2 b3 (by rw[←e4];exact b4)
 rw[←e4]at this
 exact this
theorem elem_M {e:EElm} (h:e.ok w.heap.size w) (h0:0≤wg e.f 0 3000) (hok:okE e.f) (hg:Goods e.ng e.g) (hk0:∀k,k<e.ng→0≤wg (e.g k) 0 3000) (hm:0≤e.m∧e.m≤2) (hl:(flB e.ng (fun k=>iniL (funsB e) (e.g k))).length≤1000000000000) (hgo:∀k,k<e.ng→okE (e.g k)) :
  Calls QP 131 #[.agg #[I J e.r,I J e.m,I J e.t,V e.pf e.f.len e.cf,V e.pg e.ng e.cg]] w (BO w (meL e)):=by
 have:=Relem_says e.r e.m e.t e.pf e.pg e.f.len e.cf e.ng e.cg e.bg e.og (codL e.f) e.g e.qg e.dg (funsB e) w h.h4 (by unfold funsB;rw[Bool.and_comm]) (by omega)
  (fun W hW=>exprM (h.h3.below hW) hW.size h0 hok) (fun k hk W hW=>exprM ((h.h4.2 k hk).below hW) hW.size (hk0 k hk) (hgo k hk)) (by have:=codR_len h0 hok;omega) hl
 exact this
end
section
variable {M:MD} {w:World}
theorem may_st {B:Nat} (h:M.ok B w) (hm:mayP M=true):0≤M.st:=by
 have h1:=hm
 unfold mayP at h1
 simp only[Bool.and_eq_true]at h1
 have h2:=h1.1.1.1.2
 rw[start_eq M.st h.stk]at h2
 simp only[Bool.and_eq_true,decide_eq_true_eq]at h2
 exact h2.1
theorem refMod_yes (h:M.ok w.heap.size w) (hf:FitM M) (hm:mayP M=true) :
  Calls QP 24 #[M.val] w fun e w'=>∃v,e=Qr (.tuple #[v,I J 0])∧w'.ownsRow w.heap.size 5 1 v (modL M).length (QY (modL M))∧Below w.heap.size w w':=by
 have hmf:=may_f h hm
 have hst:=may_st h hm
 have goods:∀i,i<M.en→Goods (M.e i).ng (M.e i).g:=fun i hi=>⟨(hf.e i hi).2,fun k hk=>few_lt (hf.ek i hi k hk),hmf.ek i hi,fun k hk=>few_siz (hf.ek i hi k hk)⟩
 have hmay:∀W,Below w.heap.size w W→Calls QP 16 #[M.val] W fun e w'=>e=Qr (G true)∧Below W.heap.size W w':=fun W hW=>by
  have:=RMay_M ((h.below hW).mono hW.size) hf
  rw[←may_eq h,hm]at this
  exact this
 have hhd:∀W,Below w.heap.size w W→Calls QP 129 #[M.val] W (BO W (headsL M)):=fun W hW=>heads_M ((h.below hW).mono hW.size) hf hmf
 have hmd:∀W,Below w.heap.size w W→Calls QP 130 #[M.val] W (BO W (midL M)):=fun W hW=>mid_M ((h.below hW).mono hW.size) hf hmf hst
 have l_e:=flB_small (n:=M.en) (P:=fun i=>meL (M.e i)) (k:=7000000000) (Qk hf.en (by decide)) (fun i hi=>meL_len _ (hf.e i hi).1 (hmf.e i hi).1 (goods i hi)) (by decide)
 have l_f:=flB_small (n:=M.fn) (P:=fun i=>mfL (M.f i)) (k:=80000000) (Qk hf.fn (by decide)) (fun i hi=>(by have h1:=mfX_len (M.f i).l (M.f i).f (hf.f i hi).2 (hmf.f i hi) (few_siz (hf.f i hi).1);have h2:=uI_len (locL (M.f i).l++codL (M.f i).f).length;unfold mfL szL;rw[QA];omega)) (by decide)
 have l_d:=flB_small (n:=M.dn) (P:=fun i=>mdL (M.d i)) (k:=7000000000) (Qk hf.dn (by decide)) (fun i hi=>mdL_len _ (hf.d i hi).1 (hmf.d i hi).1 (hf.d i hi).2) (by decide)
 have b1:=flB_small (n:=M.tn) (P:=fun i=>mtL (M.t i)) (k:=3000) hf.tn (fun i hi=>mtL_len _ (hf.t i hi).1 (hf.t i hi).2) (by decide)
 have b2:=flB_small (n:=M.imn) (P:=fun i=>miL (M.im i)) (k:=3000) hf.imn (fun i hi=>miL_len _ (hf.im i hi).1 (hf.im i hi).2) (by decide)
 have b3:=flB_small (n:=M.fn) (P:=fun i=>uI (M.f i).ty) (k:=10) (Qk hf.fn (by decide)) (fun i hi=>uI_len _) (by decide)
 have c1:=flB_small (n:=M.tbn) (P:=fun i=>mbL (M.tb i)) (k:=30) hf.tbn (fun i hi=>(by have:=limR_len (M.tb i).mn (M.tb i).mx (M.tb i).h;simp only[mbL,tabL,QC];omega)) (by decide)
 have c2:=flB_small (n:=M.mn) (P:=fun i=>mlL (M.m i)) (k:=30) hf.mn (fun i hi=>(by have:=limR_len (M.m i).mn (M.m i).mx (M.m i).h;simp only[mlL];omega)) (by decide)
 have c3:=flB_small (n:=M.gn) (P:=fun i=>mgL (M.g i)) (k:=70000010) (Qk hf.gn (by decide)) (fun i hi=>(by have:=codR_len (hf.g i hi) (hmf.g i hi);simp only[mgL,gloL,QA,QC,QN];omega)) (by decide)
 have c4:=flB_small (n:=M.xn) (P:=fun i=>mxL (M.x i)) (k:=3000) hf.xn (fun i hi=>(by have h1:=strL_len (M.x i).s;have h2:=uI_len (M.x i).ix;have h3:=hf.x i hi;simp only[mxL,QA,QC];omega)) (by decide)
 have l_hd:(headsL M).length≤10000000000000:=by
  have s1:=secL_len 1 M.tn (flB M.tn fun i=>mtL (M.t i))
  have s2:=secL_len 2 M.imn (flB M.imn fun i=>miL (M.im i))
  have s3:=secL_len 3 M.fn (flB M.fn fun i=>uI (M.f i).ty)
  unfold headsL
  simp only[QA]
  omega
 have l_ST:(starL M.st).length≤100:=by
  have:=szu_len (M.st-1)
  unfold starL
  split
  ·simp
  simp only[QC];omega
 have l_md:(midL M).length≤10000000000000:=by
  have s1:=secL_len 4 M.tbn (flB M.tbn fun i=>mbL (M.tb i))
  have s2:=secL_len 5 M.mn (flB M.mn fun i=>mlL (M.m i))
  have s3:=secL_len 6 M.gn (flB M.gn fun i=>mgL (M.g i))
  have s4:=secL_len 7 M.xn (flB M.xn fun i=>mxL (M.x i))
  unfold midL
  simp only[QA]
  omega
 have heB:∀i,i<M.en→∀W,Below w.heap.size w W→Calls QP 131 #[.agg #[I J (M.e i).r,I J (M.e i).m,I J (M.e i).t,V (M.e i).pf (M.e i).f.len (M.e i).cf,V (M.e i).pg (M.e i).ng (M.e i).cg]] W (BO W (meL (M.e i))):=fun i hi W hW =>
  elem_M (((h.ez i hi).below hW).mono hW.size) (hf.e i hi).1 (hmf.e i hi).1 (goods i hi) (hf.ek i hi) (hmf.e i hi).2 (flB_small (k:=61200001) (goods i hi).n (fun k hk=>ini_len _ _ (hmf.ek i hi k hk) (few_siz (hf.ek i hi k hk))) (by decide)) (hmf.ek i hi)
 have hfB:∀i,i<M.fn→∀W,Below w.heap.size w W→Calls QP 134 #[.agg #[I J (M.f i).ty,V (M.f i).pl (M.f i).l.length (M.f i).cl,V (M.f i).pf (M.f i).f.len (M.f i).cf]] W (BO W (mfL (M.f i))):=fun i hi W hW =>
  Rbody_says (M.f i).ty (M.f i).l (M.f i).pl (M.f i).pf (M.f i).cl (M.f i).f.len (M.f i).cf (codL (M.f i).f) W (((h.fz i hi).h1.below hW).mono hW.size).1 (hf.f i hi).2 (fun W' hW'=>exprM ((h.fz i hi).h2.below (hW.trans (hW'.mono hW.size))) (hW.trans (hW'.mono hW.size)).size (hf.f i hi).1 (hmf.f i hi)) (by have:=codR_len (hf.f i hi).1 (hmf.f i hi);omega)
 have hdE:∀i,i<M.dn→∀W,Below w.heap.size w W→Calls QP 27 #[V (M.d i).pf (M.d i).f.len (M.d i).cf] W (BO W (codL (M.d i).f)):=fun i hi W hW=>exprM ((h.dz i hi).h2.below hW) hW.size (hf.d i hi).1 (hmf.d i hi).1
 have hdY:∀i,i<M.dn→∀W,Below w.heap.size w W→Calls QP 135 #[I J (M.d i).b.length,V (M.d i).pb (M.d i).b.length (M.d i).cb] W (BO W (szL (M.d i).b)):=fun i hi W hW=>listedY_says (M.d i).b.length (M.d i).pb (M.d i).cb (M.d i).b w.heap.size W hW.size ((h.dz i hi).h3.below hW) rfl (by have:=(hf.d i hi).2;omega)
 unfold MD.val at hmay hhd hmd ⊢
 unfold modL
 exact Rmod_says M.tp M.imp M.fp M.tbp M.mp M.gp M.xp M.ep M.dp M.tn M.tc M.imn M.imc M.fn M.fc M.tbn M.tbc M.mn M.mc M.gn M.gc M.xn M.xc M.en M.ec M.dn M.dc M.st M.cnt
  M.eg M.ew (fun i=>(M.e i).r) (fun i=>(M.e i).m) (fun i=>(M.e i).t) (fun i=>(M.e i).pf) (fun i=>(M.e i).f.len) (fun i=>(M.e i).cf) (fun i=>(M.e i).pg) (fun i=>(M.e i).ng) (fun i=>(M.e i).cg)
  M.fg M.fw (fun i=>(M.f i).ty) (fun i=>(M.f i).pl) (fun i=>(M.f i).l.length) (fun i=>(M.f i).cl) (fun i=>(M.f i).pf) (fun i=>(M.f i).f.len) (fun i=>(M.f i).cf)
  M.dg M.dw (fun i=>(M.d i).m) (fun i=>(M.d i).t) (fun i=>(M.d i).pf) (fun i=>(M.d i).f.len) (fun i=>(M.d i).cf) (fun i=>(M.d i).pb) (fun i=>(M.d i).b.length) (fun i=>(M.d i).cb)
  (headsL M) (midL M) (fun i=>meL (M.e i)) (fun i=>mfL (M.f i)) (fun i=>codL (M.d i).f) (fun i=>szL (M.d i).b) w
  h.er.1 h.er.2.1 (fun i hi=>⟨h.er.2.2 i hi 0 _ rfl,h.er.2.2 i hi 1 _ rfl,h.er.2.2 i hi 2 _ rfl,h.er.2.2 i hi 3 _ rfl,h.er.2.2 i hi 4 _ rfl⟩)
  h.fr.1 h.fr.2.1 (fun i hi=>⟨h.fr.2.2 i hi 0 _ rfl,h.fr.2.2 i hi 1 _ rfl,h.fr.2.2 i hi 2 _ rfl⟩)
  h.dr.1 h.dr.2.1 (fun i hi=>⟨h.dr.2.2 i hi 0 _ rfl,h.dr.2.2 i hi 1 _ rfl,h.dr.2.2 i hi 2 _ rfl,h.dr.2.2 i hi 3 _ rfl⟩)
  hmay hhd hmd heB hfB (fun i hi=>Classical.em _) hdE hdY l_hd l_md l_e l_f l_d
theorem refMod_no (h:M.ok w.heap.size w) (hf:FitM M) (hm:mayP M=false) :
  Calls QP 24 #[M.val] w fun e w'=>e=Qr (.tuple #[V none 0 0,I J 1])∧Below w.heap.size w w' :=
 Rmod_no M.tp M.imp M.fp M.tbp M.mp M.gp M.xp M.ep M.dp M.tn M.tc M.imn M.imc M.fn M.fc M.tbn M.tbc M.mn M.mc M.gn M.gc M.xn M.xc M.en M.ec M.dn M.dc M.st M.cnt w (fun W hW=>by
  have:=RMay_M ((h.below hW).mono hW.size) hf
  rw[←may_eq h,hm]at this
  exact this)
end
end Go.Proofs.YtjgeedgphcjhoaaGreat
