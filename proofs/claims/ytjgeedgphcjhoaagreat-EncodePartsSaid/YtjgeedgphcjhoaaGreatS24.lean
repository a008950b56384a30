/-
  RHeads, RMid: merged, what the law does not reach left out (each text says what it holds where it lies in wip). No condition.
-/
import Derived.Test.YtjgeedgphcjhoaaGreatS23
import Derived.Deep.DeepCutAuto
import Derived.Test.YtjgeedgphcjhoaaGreatS01
set_option linter.unusedSimpArgs false
set_option linter.unusedVariables false
set_option maxRecDepth 100000
set_option maxHeartbeats 64000000
namespace Go.Proofs.YtjgeedgphcjhoaaGreat
open Go.RowKit
open Value renaming int → I,slice → V,bool → G,string → Qs,pointer → Qp
open IntKind renaming i64 → J
open Obj renaming cells → Qc
open _root_.Go.Proofs.Tryz renaming prog → QP
open Nat renaming le_refl → Ql,le_of_lt → Qo,le_trans → Qk,zero_le → Qz
open List renaming length_append → QA,length_cons → QC,length_nil → QN,append_assoc → QS
open Below renaming refl → QB
open Act renaming put → Qu
open Lib renaming byteCells → QY
def tlL (kd ty tr tmn tmx:Int) (th:Bool) (mmn mmx:Int) (mh:Bool) (gt:Int) (gm:Bool):List UInt8:=if kd=0 then uI ty else if kd=1 then tabL tr tmn tmx th else if kd=2 then limL mmn mmx mh else gloL gt gm
theorem tlL_len (kd ty tr tmn tmx:Int) (th:Bool) (mmn mmx:Int) (mh:Bool) (gt:Int) (gm:Bool):(tlL kd ty tr tmn tmx th mmn mmx mh gt gm).length≤22:=by
 have:=uI_len ty
 have:=limR_len tmn tmx th
 have:=limR_len mmn mmx mh
 unfold tlL tabL gloL
 split
 ·omega
 split
 ·simp only[QC];omega
 split
 ·omega
 simp
theorem secR_len (id:Int) (n:Nat) (b:List UInt8):(secL id n b).length≤b.length+21:=by
 have h1:=uI_len n
 have h2:=uI_len (uI n++b).length
 unfold secL szL
 split
 ·simp
 simp only[QC,QA]at *
 omega
theorem strR_len (s:ByteArray):(strL s).length≤10+s.size:=by
 have:=uI_len s.size
 simp only[strL,QA]
 have:s.data.toList.length=s.size:=rfl
 omega
theorem Rheads_says (tp imp fp tbp mp gp xp ep dp:Option Addr) (tn tc imn imc fn fc tbn tbc mn mc gn gc xn xc en ec dn dc:Nat) (st:Int) (cnt:Bool) (tblk toff:Nat) (tp0:Nat→Option Addr) (tn0 tc0:Nat→Nat) (tp1:Nat→Option Addr) (tn1 tc1:Nat→Nat) (tA tB:Nat→List UInt8) (imblk imoff:Nat) (imz0:Nat→ByteArray) (imz1:Nat→ByteArray) (imt2:Nat→Int) (imt3:Nat→Int) (imt4:Nat→Int) (imt5:Nat→Int) (imt6:Nat→Int) (imu7:Nat→Bool) (imt8:Nat→Int) (imt9:Nat→Int) (imu10:Nat→Bool) (imt11:Nat→Int) (imu12:Nat→Bool) (fblk foff:Nat) (ft0:Nat→Int) (w:World)
  (htl:tn<9223372036854775807) (htg:tn≠0→tp=some ⟨tblk,toff,none⟩∧tblk<w.heap.size)
  (htx:∀i,i<tn→w.cell? ⟨tblk,toff+i*2,none⟩=some (V (tp0 i) (tn0 i) (tc0 i))∧w.cell? ⟨tblk,toff+i*2+1,none⟩=some (V (tp1 i) (tn1 i) (tc1 i)))
  (himl:imn<9223372036854775807) (himg:imn≠0→imp=some ⟨imblk,imoff,none⟩∧imblk<w.heap.size)
  (himx:∀i,i<imn→w.cell? ⟨imblk,imoff+i*13,none⟩=some (Qs (imz0 i))∧w.cell? ⟨imblk,imoff+i*13+1,none⟩=some (Qs (imz1 i))∧w.cell? ⟨imblk,imoff+i*13+2,none⟩=some (I J (imt2 i))∧w.cell? ⟨imblk,imoff+i*13+3,none⟩=some (I J (imt3 i))∧w.cell? ⟨imblk,imoff+i*13+4,none⟩=some (I J (imt4 i))∧w.cell? ⟨imblk,imoff+i*13+5,none⟩=some (I J (imt5 i))∧w.cell? ⟨imblk,imoff+i*13+6,none⟩=some (I J (imt6 i))∧w.cell? ⟨imblk,imoff+i*13+7,none⟩=some (G (imu7 i))∧w.cell? ⟨imblk,imoff+i*13+8,none⟩=some (I J (imt8 i))∧w.cell? ⟨imblk,imoff+i*13+9,none⟩=some (I J (imt9 i))∧w.cell? ⟨imblk,imoff+i*13+10,none⟩=some (G (imu10 i))∧w.cell? ⟨imblk,imoff+i*13+11,none⟩=some (I J (imt11 i))∧w.cell? ⟨imblk,imoff+i*13+12,none⟩=some (G (imu12 i)))
  (hfl:fn<9223372036854775807) (hfg:fn≠0→fp=some ⟨fblk,foff,none⟩∧fblk<w.heap.size)
  (hfx:∀i,i<fn→w.cell? ⟨fblk,foff+i*3,none⟩=some (I J (ft0 i)))
  (htA:∀i,i<tn→∀W,Below w.heap.size w W→Calls QP 202 #[V (tp0 i) (tn0 i) (tc0 i)] W (BO W (tA i)))
  (htB:∀i,i<tn→∀W,Below w.heap.size w W→Calls QP 202 #[V (tp1 i) (tn1 i) (tc1 i)] W (BO W (tB i)))
  (himK:∀i,i<imn→imt2 i=0∨imt2 i=1∨imt2 i=2∨imt2 i=3) (himS:∀i,i<imn→(imz0 i).size≤1000∧(imz1 i).size≤1000)
  (htN:(flB tn (fun i=>[96]++(uI (tn0 i)++tA i)++(uI (tn1 i)++tB i))).length≤1000000000000) (himN:(flB imn (fun i=>strL (imz0 i)++strL (imz1 i)++[byI (imt2 i)]++tlL (imt2 i) (imt3 i) (imt4 i) (imt5 i) (imt6 i) (imu7 i) (imt8 i) (imt9 i) (imu10 i) (imt11 i) (imu12 i))).length≤1000000000000) (hfN:(flB fn (fun i=>uI (ft0 i))).length≤1000000000000) :
  Calls QP 129 #[.agg #[V tp tn tc,V imp imn imc,V fp fn fc,V tbp tbn tbc,V mp mn mc,V gp gn gc,V xp xn xc,I J st,V ep en ec,V dp dn dc,G cnt]] w (BO w (secL 1 tn (flB tn (fun i=>[96]++(uI (tn0 i)++tA i)++(uI (tn1 i)++tB i)))++secL 2 imn (flB imn (fun i=>strL (imz0 i)++strL (imz1 i)++[byI (imt2 i)]++tlL (imt2 i) (imt3 i) (imt4 i) (imt5 i) (imt6 i) (imu7 i) (imt8 i) (imt9 i) (imu10 i) (imt11 i) (imu12 i)))++secL 3 fn (flB fn (fun i=>uI (ft0 i))))):=by
 have HtG:=hid htg
 have HtX:=hid htx
 have nt62:(tn:Int)<9223372036854775807:=by omega
 have HimG:=hid himg
 have HimX:=hid himx
 have nim62:(imn:Int)<9223372036854775807:=by omega
 have HfG:=hid hfg
 have HfX:=hid hfx
 have nf62:(fn:Int)<9223372036854775807:=by omega
 have HtA:=hid htA
 have HtB:=hid htB
 have HimK:=hid himK
 have HimS:=hid himS
 obtain ⟨FT,hFT⟩:∃F:Nat→List UInt8,F=(fun i=>[96]++(uI (tn0 i)++tA i)++(uI (tn1 i)++tB i)):=⟨_,rfl⟩
 rw[←hFT]at htN ⊢
 have HFT:=hid hFT
 have HtN:=hid htN
 obtain ⟨FI,hFI⟩:∃F:Nat→List UInt8,F=(fun i=>strL (imz0 i)++strL (imz1 i)++[byI (imt2 i)]++tlL (imt2 i) (imt3 i) (imt4 i) (imt5 i) (imt6 i) (imu7 i) (imt8 i) (imt9 i) (imu10 i) (imt11 i) (imu12 i)):=⟨_,rfl⟩
 rw[←hFI]at himN ⊢
 have HFI:=hid hFI
 have HimN:=hid himN
 obtain ⟨FF,hFF⟩:∃F:Nat→List UInt8,F=(fun i=>uI (ft0 i)):=⟨_,rfl⟩
 rw[←hFF]at hfN ⊢
 have HFF:=hid hFF
 have HfN:=hid hfN
 obtain ⟨X1,hX1⟩:∃X,X=secL 1 tn (flB tn FT):=⟨_,rfl⟩
 obtain ⟨X2,hX2⟩:∃X,X=secL 2 imn (flB imn FI):=⟨_,rfl⟩
 obtain ⟨X3,hX3⟩:∃X,X=secL 3 fn (flB fn FF):=⟨_,rfl⟩
 have e1:=secR_len 1 tn (flB tn FT)
 have e2:=secR_len 2 imn (flB imn FI)
 have e3:=secR_len 3 fn (flB fn FF)
 rw[←hX1]at e1 ⊢
 rw[←hX2]at e2 ⊢
 rw[←hX3]at e3 ⊢
 have HNa:=hid (show X1.length+X2.length≤140737488355000 by omega)
 have HNb:=hid (show (X1++X2).length+X3.length≤140737488355000 by rw[QA];omega)
 have HNt:=hid (show (flB tn FT).length+100≤140737488355000 by omega)
 have HNi:=hid (show (flB imn FI).length+100≤140737488355000 by omega)
 have HNf:=hid (show (flB fn FF).length+100≤140737488355000 by omega)
 have HS1:=hid (fun (v:Value) (B:Nat) (W:World) h=>(show Calls QP 132 #[.int .u8 1,I J tn,v] W (BO W X1) by rw[hX1];exact Rsec_says 1 (by decide) (by decide) tn v (flB tn FT) B W h HNt.out))
 have HS2:=hid (fun (v:Value) (B:Nat) (W:World) h=>(show Calls QP 132 #[.int .u8 2,I J imn,v] W (BO W X2) by rw[hX2];exact Rsec_says 2 (by decide) (by decide) imn v (flB imn FI) B W h HNi.out))
 have HS3:=hid (fun (v:Value) (B:Nat) (W:World) h=>(show Calls QP 132 #[.int .u8 3,I J fn,v] W (BO W X3) by rw[hX3];exact Rsec_says 3 (by decide) (by decide) fn v (flB fn FF) B W h HNf.out))
 have HX0:=hid (CA.new w #[V tp tn tc,V imp imn imc,V fp fn fc,V tbp tbn tbc,V mp mn mc,V gp gn gc,V xp xn xc,I J st,V ep en ec,V dp dn dc,G cnt] 32)
 have HB0:=hid ((QB w.heap.size w).alloc (Ql _) (Qc #[V tp tn tc,V imp imn imc,V fp fn fc,V tbp tbn tbc,V mp mn mc,V gp gn gc,V xp xn xc,I J st,V ep en ec,V dp dn dc,G cnt] 32))
 clear htg htx htl himg himx himl hfg hfx hfl htA htB himK himS hFT htN hFI himN hFF hfN hX1 hX2 hX3 e1 e2 e3
 go_enter Tryz.func129,Tryz.ntmps129
 go_upto_region 1 with fail
 generalize w.alloc (Qc #[V tp tn tc,V imp imn imc,V fp fn fc,V tbp tbn tbc,V mp mn mc,V gp gn gc,V xp xn xc,I J st,V ep en ec,V dp dn dc,G cnt] 32)=W0 at *
 have HBW:=HB0
 have HXW:=HX0
 clear HB0 HX0
 have yf:=HXW.out.at (k:=0) (v:=V tp tn tc) rfl
 go_wp2
 go_loopw [3,4] (fun vo vi wr=>∃(i:Nat) (p:Option Addr) (q c:Nat),i≤tn∧vi=I J i∧vo=V p q c∧Hid (wr.ownsRow W0.heap.size 5 1 (V p q c) (flB i FT).length (QY (flB i FT)))∧Hid (RF W0.heap.size W0 wr)) (fun _ vi _=>tn-(intOf vi).toNat)
 case atStart=>exact ⟨0,none,0,0,Qz _,rfl,rfl,own_nil _ _,RF.refl _ _⟩
 clear yf
 obtain ⟨i,p0,m0,c0,hi,rfl,rfl,HR,HF⟩:=hrel
 have HB:=hid (HBW.out.trans ((HF.out.below (Ql _)).mono HBW.out.size))
 have HX:=hid (HXW.out.below (HF.out.below (Ql _)) HXW.out.lt)
 have yf:=HX.out.at (k:=0) (v:=V tp tn tc) rfl
 by_cases hlt:i<tn
 ·as_aux_lemma =>
  obtain ⟨z0,z1⟩:=HtX.out i hlt
  obtain ⟨hpe,hg⟩:=HtG.out (by omega)
  subst hpe
  clear yf
  have yf:=HX.out.at (k:=0) (v:=V (some ⟨tblk,toff,none⟩) tn tc) rfl
  have x0:=(HB.out.cell (p:=⟨tblk,toff+i*2,none⟩) hg).trans z0
  have x1:=(HB.out.cell (p:=⟨tblk,toff+i*2+1,none⟩) hg).trans z1
  have Z0:=hid z0
  have Z1:=hid z1
  have HGL:=hid hg
  clear z0 z1 hg
  have HLE:=hid (Qk (flB_le FT hlt) HtN.out)
  have KA:=fun W h=>hid (HtA.out i hlt W h)
  have KB:=fun W h=>hid (HtB.out i hlt W h)
  have HSN:=hid (show flB (i+1) FT=flB i FT++([96]++(uI (tn0 i)++tA i)++(uI (tn1 i)++tB i)) by rw[HFT.out];rfl)
  generalize tp0 i=q0 at *
  generalize tn0 i=m0 at *
  generalize tc0 i=d0 at *
  generalize tp1 i=q1 at *
  generalize tn1 i=m1 at *
  generalize tc1 i=d1 at *
  generalize tA i=XA at *
  generalize tB i=XB at *
  have l0:(flB i FT++([96]++(uI m0++XA)++(uI m1++XB))).length≤1000000000000:=by rw[←HSN.out];exact HLE.out
  simp only[QA,QC,QN]at l0
  have HN1:=hid (show (flB i FT).length+([96]:List UInt8).length≤140737488355000 by simp only[QC,QN];omega)
  have HN2:=hid (show XA.length+20≤140737488355000 by omega)
  have HN3:=hid (show (flB i FT++[96]).length+(uI m0++XA).length≤140737488355000 by simp only[QA,QC,QN];omega)
  have HN4:=hid (show XB.length+20≤140737488355000 by omega)
  have HN5:=hid (show (flB i FT++[96]++(uI m0++XA)).length+(uI m1++XB).length≤140737488355000 by simp only[QA,QC,QN];omega)
  have HE:=hid (CA.new wr #[V q0 m0 d0,V q1 m1 d1] 67)
  have HF1:=hid ((HF.out.alloc (Qc #[V q0 m0 d0,V q1 m1 d1] 67)).alloc (Qc #[.int .u8 96] 5))
  have HE1:=hid (HE.out.alloc (Qc #[.int .u8 96] 5))
  have HR1:=hid (own_kept (own_kept HR.out ((QB _ _).alloc (Ql _) (Qc #[V q0 m0 d0,V q1 m1 d1] 67))) ((QB _ _).alloc (Ql _) (Qc #[.int .u8 96] 5)))
  have hl1:=own_litc (wr.alloc (Qc #[V q0 m0 d0,V q1 m1 d1] 67)) 96 96 rfl
  rw[size_al]at hl1
  have HL1:=hid (own_less hl1 (Nat.le_succ_of_le HF.out.size))
  clear hl1
  clear l0
  go_upto_region 7 with (at_builtin;refine append_rowW rfl _ _ rfl W0.heap.size _ _ _ _ _ ((wr.alloc (Qc #[V q0 m0 d0,V q1 m1 d1] 67)).alloc (Qc #[.int .u8 96] 5)) HR1.out HL1.out HN1.out HF1.out.size (RF.refl _ _) rfl rfl ?_;intro pO mO cO w3 ho3 hf3;have HOO:=hid ho3;have hS0:=hid (And.intro (HF1.out.trans hf3) (HE1.out.rf hf3 (by decide)));clear ho3 hf3)
  have HSZ:Hid (W0.heap.size≤W0.heap.size):=Ql _
  have hS:RF W0.heap.size W0 w3.drew∧CA wr.heap.size #[V q0 m0 d0,V q1 m1 d1] 67 w3.drew:=⟨hS0.out.1.drew,hS0.out.2⟩
  replace HOO:Hid (w3.drew.ownsRow W0.heap.size 5 1 (V pO mO cO) (flB i FT++[96]).length (QY (flB i FT++[96]))):=HOO
  clear hS0 HR1 HL1 HE1 HF1 HE x0 x1 yf
  refine wp_region_held_drew (S:=fun W=>RF W0.heap.size W0 W∧CA wr.heap.size #[V q0 m0 d0,V q1 m1 d1] 67 W) (by kernel_rfl) hS (fun _=>?_)
  generalize w3.drew=W at *
  refine zt 0 (V pO mO cO) rfl ?_ ?_
  ·(intro W hSw;have x0:=hSw.2.at (k:=0) (v:=V q0 m0 d0) rfl;have x1:=hSw.2.at (k:=1) (v:=V q1 m1 d1) rfl;go_simp;try (exact wrap_b8 _);try (with_reducible rfl))
  try simp only[Qu,sl2,sl0,sl1]
  refine zt 1 (Qp (some ⟨wr.heap.size,0,none⟩)) rfl ?_ ?_
  ·(intro W hSw;have x0:=hSw.2.at (k:=0) (v:=V q0 m0 d0) rfl;have x1:=hSw.2.at (k:=1) (v:=V q1 m1 d1) rfl;go_simp;try (exact wrap_b8 _);try (with_reducible rfl))
  try simp only[Qu,sl2,sl0,sl1]
  refine zt 2 (V q0 m0 d0) rfl ?_ ?_
  ·(intro W hSw;have x0:=hSw.2.at (k:=0) (v:=V q0 m0 d0) rfl;have x1:=hSw.2.at (k:=1) (v:=V q1 m1 d1) rfl;go_simp;try (exact wrap_b8 _);try (with_reducible rfl))
  try simp only[Qu,sl2,sl0,sl1]
  refine zt 3 (I J m0) rfl ?_ ?_
  ·(intro W hSw;have x0:=hSw.2.at (k:=0) (v:=V q0 m0 d0) rfl;have x1:=hSw.2.at (k:=1) (v:=V q1 m1 d1) rfl;go_simp;try (exact wrap_b8 _);try (with_reducible rfl))
  try simp only[Qu,sl2,sl0,sl1]
  refine zt 4 (Qp (some ⟨wr.heap.size,0,none⟩)) rfl ?_ ?_
  ·(intro W hSw;have x0:=hSw.2.at (k:=0) (v:=V q0 m0 d0) rfl;have x1:=hSw.2.at (k:=1) (v:=V q1 m1 d1) rfl;go_simp;try (exact wrap_b8 _);try (with_reducible rfl))
  try simp only[Qu,sl2,sl0,sl1]
  refine zt 5 (V q0 m0 d0) rfl ?_ ?_
  ·(intro W hSw;have x0:=hSw.2.at (k:=0) (v:=V q0 m0 d0) rfl;have x1:=hSw.2.at (k:=1) (v:=V q1 m1 d1) rfl;go_simp;try (exact wrap_b8 _);try (with_reducible rfl))
  try simp only[Qu,sl2,sl0,sl1]
  refine zr 6 rfl (fun K hK=>?_)
  go_simp
  go_at_call 202
  (with_reducible refine ((KA W (HBW.out.trans ((hS.1.below (Ql _)).mono HBW.out.size))).out).mono ?_)
  rintro e W1 ⟨v,rfl,ho,hb⟩
  obtain ⟨pA,mA,cA,rfl⟩:=own_slice ho
  have HOA:=hid (own_less ho (Qk HSZ.out hS.1.size))
  (try replace HOO:=hid (own_kept HOO.out hb))
  (try replace HOL:=hid (own_kept HOL.out hb))
  (try replace HOZ:=hid (own_kept HOZ.out hb))
  (try replace HOC:=hid (own_kept HOC.out hb))
  (try replace HOD:=hid (own_kept HOD.out hb))
  (try replace HOY:=hid (own_kept HOY.out hb))
  replace hS:=And.intro (hS.1.trans (RF.of hb)) (hS.2.below hb hS.2.lt)
  clear ho hb
  refine hK.out _ _ hS (fun _=>?_)
  clear hK K
  try simp only[Qu,sl2,sl0,sl1]
  refine zr 7 rfl (fun K hK=>?_)
  go_simp
  go_at_call 135
  (with_reducible refine (listed_says m0 _ XA W0.heap.size W1 HOA.out HN2.out).mono ?_)
  rintro e W2 ⟨v,rfl,ho,hb⟩
  obtain ⟨pL,mL,cL,rfl⟩:=own_slice ho
  have HOL:=hid (own_less ho (Qk HSZ.out hS.1.size))
  (try replace HOO:=hid (own_kept HOO.out hb))
  (try replace HOA:=hid (own_kept HOA.out hb))
  (try replace HOZ:=hid (own_kept HOZ.out hb))
  (try replace HOC:=hid (own_kept HOC.out hb))
  (try replace HOD:=hid (own_kept HOD.out hb))
  (try replace HOY:=hid (own_kept HOY.out hb))
  replace hS:=And.intro (hS.1.trans (RF.of hb)) (hS.2.below hb hS.2.lt)
  clear ho hb
  refine hK.out _ _ hS (fun _=>?_)
  clear hK K
  try simp only[Qu,sl2,sl0,sl1]
  refine zr 8 rfl (fun K hK=>?_)
  refine append_rowS rfl (.tmp 27) (.tmp 34) rfl W0.heap.size _ _ _ _ _ W0 HOO.out HOL.out HN3.out (Ql _) hS.1 rfl rfl ?_
  intro pZ mZ cZ W3 ho3 hr
  replace hS:=And.intro (hS.1.trans hr) (hS.2.rf hr (by decide))
  have HOZ:=hid ho3
  clear ho3 hr HOO HOL
  refine hK.out _ _ hS (fun _=>?_)
  clear hK K
  try simp only[Qu,sl2,sl0,sl1]
  refine zt 9 (V pZ mZ cZ) rfl ?_ ?_
  ·(intro W hSw;have x0:=hSw.2.at (k:=0) (v:=V q0 m0 d0) rfl;have x1:=hSw.2.at (k:=1) (v:=V q1 m1 d1) rfl;go_simp;try (exact wrap_b8 _);try (with_reducible rfl))
  try simp only[Qu,sl2,sl0,sl1]
  refine wpAnyH_done (by kernel_rfl) ?_ _
  have hS1:=hid hS
  clear hS
  go_upto_region 8 with fail
  have hS:RF W0.heap.size W0 W3.drew∧CA wr.heap.size #[V q0 m0 d0,V q1 m1 d1] 67 W3.drew:=⟨hS1.out.1.drew,hS1.out.2⟩
  replace HOZ:Hid (W3.drew.ownsRow W0.heap.size 5 1 (V pZ mZ cZ) (flB i FT++[96]++(uI m0++XA)).length (QY (flB i FT++[96]++(uI m0++XA)))):=HOZ
  clear hS1
  refine wp_region_held_drew (S:=fun W=>RF W0.heap.size W0 W∧CA wr.heap.size #[V q0 m0 d0,V q1 m1 d1] 67 W) (by kernel_rfl) hS (fun _=>?_)
  generalize W3.drew=W at *
  refine zt 0 (V pZ mZ cZ) rfl ?_ ?_
  ·(intro W hSw;have x0:=hSw.2.at (k:=0) (v:=V q0 m0 d0) rfl;have x1:=hSw.2.at (k:=1) (v:=V q1 m1 d1) rfl;go_simp;try (exact wrap_b8 _);try (with_reducible rfl))
  try simp only[Qu,sl2,sl0,sl1]
  refine zt 1 (Qp (some ⟨wr.heap.size,1,none⟩)) rfl ?_ ?_
  ·(intro W hSw;have x0:=hSw.2.at (k:=0) (v:=V q0 m0 d0) rfl;have x1:=hSw.2.at (k:=1) (v:=V q1 m1 d1) rfl;go_simp;try (exact wrap_b8 _);try (with_reducible rfl))
  try simp only[Qu,sl2,sl0,sl1]
  refine zt 2 (V q1 m1 d1) rfl ?_ ?_
  ·(intro W hSw;have x0:=hSw.2.at (k:=0) (v:=V q0 m0 d0) rfl;have x1:=hSw.2.at (k:=1) (v:=V q1 m1 d1) rfl;go_simp;try (exact wrap_b8 _);try (with_reducible rfl))
  try simp only[Qu,sl2,sl0,sl1]
  refine zt 3 (I J m1) rfl ?_ ?_
  ·(intro W hSw;have x0:=hSw.2.at (k:=0) (v:=V q0 m0 d0) rfl;have x1:=hSw.2.at (k:=1) (v:=V q1 m1 d1) rfl;go_simp;try (exact wrap_b8 _);try (with_reducible rfl))
  try simp only[Qu,sl2,sl0,sl1]
  refine zt 4 (Qp (some ⟨wr.heap.size,1,none⟩)) rfl ?_ ?_
  ·(intro W hSw;have x0:=hSw.2.at (k:=0) (v:=V q0 m0 d0) rfl;have x1:=hSw.2.at (k:=1) (v:=V q1 m1 d1) rfl;go_simp;try (exact wrap_b8 _);try (with_reducible rfl))
  try simp only[Qu,sl2,sl0,sl1]
  refine zt 5 (V q1 m1 d1) rfl ?_ ?_
  ·(intro W hSw;have x0:=hSw.2.at (k:=0) (v:=V q0 m0 d0) rfl;have x1:=hSw.2.at (k:=1) (v:=V q1 m1 d1) rfl;go_simp;try (exact wrap_b8 _);try (with_reducible rfl))
  try simp only[Qu,sl2,sl0,sl1]
  refine zr 6 rfl (fun K hK=>?_)
  go_simp
  go_at_call 202
  (with_reducible refine ((KB W (HBW.out.trans ((hS.1.below (Ql _)).mono HBW.out.size))).out).mono ?_)
  rintro e W1 ⟨v,rfl,ho,hb⟩
  obtain ⟨pC,mC,cC,rfl⟩:=own_slice ho
  have HOC:=hid (own_less ho (Qk HSZ.out hS.1.size))
  (try replace HOO:=hid (own_kept HOO.out hb))
  (try replace HOA:=hid (own_kept HOA.out hb))
  (try replace HOL:=hid (own_kept HOL.out hb))
  (try replace HOZ:=hid (own_kept HOZ.out hb))
  (try replace HOD:=hid (own_kept HOD.out hb))
  (try replace HOY:=hid (own_kept HOY.out hb))
  replace hS:=And.intro (hS.1.trans (RF.of hb)) (hS.2.below hb hS.2.lt)
  clear ho hb
  refine hK.out _ _ hS (fun _=>?_)
  clear hK K
  try simp only[Qu,sl2,sl0,sl1]
  refine zr 7 rfl (fun K hK=>?_)
  go_simp
  go_at_call 135
  (with_reducible refine (listed_says m1 _ XB W0.heap.size W1 HOC.out HN4.out).mono ?_)
  rintro e W2 ⟨v,rfl,ho,hb⟩
  obtain ⟨pD,mD,cD,rfl⟩:=own_slice ho
  have HOD:=hid (own_less ho (Qk HSZ.out hS.1.size))
  (try replace HOO:=hid (own_kept HOO.out hb))
  (try replace HOA:=hid (own_kept HOA.out hb))
  (try replace HOL:=hid (own_kept HOL.out hb))
  (try replace HOZ:=hid (own_kept HOZ.out hb))
  (try replace HOC:=hid (own_kept HOC.out hb))
  (try replace HOY:=hid (own_kept HOY.out hb))
  replace hS:=And.intro (hS.1.trans (RF.of hb)) (hS.2.below hb hS.2.lt)
  clear ho hb
  refine hK.out _ _ hS (fun _=>?_)
  clear hK K
  try simp only[Qu,sl2,sl0,sl1]
  refine zr 8 rfl (fun K hK=>?_)
  refine append_rowS rfl (.tmp 36) (.tmp 43) rfl W0.heap.size _ _ _ _ _ W0 HOZ.out HOD.out HN5.out (Ql _) hS.1 rfl rfl ?_
  intro pY mY cY W3 ho3 hr
  replace hS:=And.intro (hS.1.trans hr) (hS.2.rf hr (by decide))
  have HOY:=hid ho3
  clear ho3 hr HOZ HOD
  refine hK.out _ _ hS (fun _=>?_)
  clear hK K
  try simp only[Qu,sl2,sl0,sl1]
  refine zt 9 (V pY mY cY) rfl ?_ ?_
  ·(intro W hSw;have x0:=hSw.2.at (k:=0) (v:=V q0 m0 d0) rfl;have x1:=hSw.2.at (k:=1) (v:=V q1 m1 d1) rfl;go_simp;try (exact wrap_b8 _);try (with_reducible rfl))
  try simp only[Qu,sl2,sl0,sl1]
  refine wpAnyH_done (by kernel_rfl) ?_ _
  have HFZ:=hid hS.1
  clear hS
  go_wp2
  go_roundw
  case rel =>
   refine ⟨i+1,pY,mY,cY,hlt,by go_num,rfl,?_,HFZ⟩
   rw[HSN.out]
   simpa[Hid,QS]using HOY.out
  case measure=>simp[intOf];omega
 have hie:tn=i:=by omega
 subst hie
 clear yf hi hlt
 have yf:=HX.out.at (k:=0) (v:=V tp tn tc) rfl
 go_upto_region 10 with (go_at_call 132;(with_reducible refine (HS1.out _ _ _ HR.out).mono ?_);rintro e wB ⟨v,rfl,ho,hb⟩;obtain ⟨pA,mA,cA,rfl⟩:=own_slice ho;have HOW:=hid (own_less ho HB.out.size);have HB1:=Qd HB hb;have HX1:=Qe HX hb;clear ho hb)
 clear yf HR HF HB HX HBW HXW
 have yf:=HX1.out.at (k:=1) (v:=V imp imn imc) rfl
 go_wp2
 go_loopw [7,8] (fun vo vi wr=>∃(i:Nat) (p:Option Addr) (q c:Nat),i≤imn∧vi=I J i∧vo=V p q c∧Hid (wr.ownsRow wB.heap.size 5 1 (V p q c) (flB i FI).length (QY (flB i FI)))∧Hid (RF wB.heap.size wB wr)) (fun _ vi _=>imn-(intOf vi).toNat)
 case atStart=>exact ⟨0,none,0,0,Qz _,rfl,rfl,own_nil _ _,RF.refl _ _⟩
 clear yf
 obtain ⟨i,p0,m0,c0,hi,rfl,rfl,HR,HF⟩:=hrel
 have HB:=hid (HB1.out.trans ((HF.out.below (Ql _)).mono HB1.out.size))
 have HX:=hid (HX1.out.below (HF.out.below (Ql _)) HX1.out.lt)
 have yf:=HX.out.at (k:=1) (v:=V imp imn imc) rfl
 by_cases hlt:i<imn
 ·as_aux_lemma =>
  obtain ⟨z0,z1,z2,z3,z4,z5,z6,z7,z8,z9,z10,z11,z12⟩:=HimX.out i hlt
  obtain ⟨hpe,hg⟩:=HimG.out (by omega)
  subst hpe
  clear yf
  have yf:=HX.out.at (k:=1) (v:=V (some ⟨imblk,imoff,none⟩) imn imc) rfl
  have x0:=(HB.out.cell (p:=⟨imblk,imoff+i*13,none⟩) hg).trans z0
  have x1:=(HB.out.cell (p:=⟨imblk,imoff+i*13+1,none⟩) hg).trans z1
  have x2:=(HB.out.cell (p:=⟨imblk,imoff+i*13+2,none⟩) hg).trans z2
  have x3:=(HB.out.cell (p:=⟨imblk,imoff+i*13+3,none⟩) hg).trans z3
  have x4:=(HB.out.cell (p:=⟨imblk,imoff+i*13+4,none⟩) hg).trans z4
  have x5:=(HB.out.cell (p:=⟨imblk,imoff+i*13+5,none⟩) hg).trans z5
  have x6:=(HB.out.cell (p:=⟨imblk,imoff+i*13+6,none⟩) hg).trans z6
  have x7:=(HB.out.cell (p:=⟨imblk,imoff+i*13+7,none⟩) hg).trans z7
  have x8:=(HB.out.cell (p:=⟨imblk,imoff+i*13+8,none⟩) hg).trans z8
  have x9:=(HB.out.cell (p:=⟨imblk,imoff+i*13+9,none⟩) hg).trans z9
  have x10:=(HB.out.cell (p:=⟨imblk,imoff+i*13+10,none⟩) hg).trans z10
  have x11:=(HB.out.cell (p:=⟨imblk,imoff+i*13+11,none⟩) hg).trans z11
  have x12:=(HB.out.cell (p:=⟨imblk,imoff+i*13+12,none⟩) hg).trans z12
  have Z0:=hid z0
  have Z1:=hid z1
  have Z2:=hid z2
  have Z3:=hid z3
  have Z4:=hid z4
  have Z5:=hid z5
  have Z6:=hid z6
  have Z7:=hid z7
  have Z8:=hid z8
  have Z9:=hid z9
  have Z10:=hid z10
  have Z11:=hid z11
  have Z12:=hid z12
  have HGL:=hid hg
  clear z0 z1 z2 z3 z4 z5 z6 z7 z8 z9 z10 z11 z12 hg
  have HLE:=hid (Qk (flB_le FI hlt) HimN.out)
  have KD:=hid (HimK.out i hlt)
  have S0:=HimS.out i hlt
  have HSN:=hid (show flB (i+1) FI=flB i FI++(strL (imz0 i)++strL (imz1 i)++[byI (imt2 i)]++tlL (imt2 i) (imt3 i) (imt4 i) (imt5 i) (imt6 i) (imu7 i) (imt8 i) (imt9 i) (imu10 i) (imt11 i) (imu12 i)) by rw[HFI.out];rfl)
  generalize imz0 i=y0 at *
  generalize imz1 i=y1 at *
  generalize imt2 i=s2 at *
  generalize imt3 i=s3 at *
  generalize imt4 i=s4 at *
  generalize imt5 i=s5 at *
  generalize imt6 i=s6 at *
  generalize imu7 i=e7 at *
  generalize imt8 i=s8 at *
  generalize imt9 i=s9 at *
  generalize imu10 i=e10 at *
  generalize imt11 i=s11 at *
  generalize imu12 i=e12 at *
  have l1:=strR_len y0
  have l2:=strR_len y1
  have l3:=tlL_len s2 s3 s4 s5 s6 e7 s8 s9 e10 s11 e12
  have l0:(flB i FI).length≤1000000000000:=Qk (flB_le FI (Qo hlt)) HimN.out
  have HS0:=hid S0
  generalize flB i FI=C at *
  have HN1:=hid (show C.length+(strL y0).length≤140737488355000 by omega)
  have HN2:=hid (show (C++strL y0).length+(strL y1).length≤140737488355000 by simp only[QA];omega)
  have HN3:=hid (show (C++strL y0++strL y1).length+([byI s2]:List UInt8).length≤140737488355000 by simp only[QA,QC,QN];omega)
  have HN4:=hid (show (C++strL y0++strL y1++[byI s2]).length+(tlL s2 s3 s4 s5 s6 e7 s8 s9 e10 s11 e12).length≤140737488355000 by simp only[QA,QC,QN];omega)
  have HE:=hid (CA.new wr #[Qs y0,Qs y1,I J s2,I J s3,I J s4,I J s5,I J s6,G e7,I J s8,I J s9,G e10,I J s11,G e12] 74)
  have HF1:=hid (HF.out.alloc (Qc #[Qs y0,Qs y1,I J s2,I J s3,I J s4,I J s5,I J s6,G e7,I J s8,I J s9,G e10,I J s11,G e12] 74))
  have HR1:=hid (own_kept HR.out ((QB _ _).alloc (Ql _) (Qc #[Qs y0,Qs y1,I J s2,I J s3,I J s4,I J s5,I J s6,G e7,I J s8,I J s9,G e10,I J s11,G e12] 74)))
  clear l0 l1 l2 l3 S0
  go_upto_region 18 with (first
   |(go_at_call 203;(with_reducible refine (Rname_says y0 (by have:=HS0.out;omega) _).mono ?_);rintro e w1 ⟨v,rfl,ho,hb⟩;obtain ⟨p1,m1,c1,rfl⟩:=own_slice ho;have HO1:=hid ho;have HA1:=hid (own_kept HR1.out hb);have HQ1:=hid (HF1.out.trans (RF.of hb));have HE1:=Qe HE hb;clear ho hb)
   |(at_builtin;refine append_rowW rfl _ _ rfl wB.heap.size _ _ _ _ _ w1 HA1.out HO1.out HN1.out HQ1.out.size (RF.refl _ _) rfl rfl ?_;intro p2 m2 c2 w2 ho3 hf3;have HA2:=hid ho3;have HQ2:=hid (HQ1.out.trans hf3);have HE2:=hid (HE1.out.rf hf3 (by decide));obtain ⟨u0,u1,u2,u3,u4,u5,u6,u7,u8,u9,u10,u11,u12⟩:=ca13 HE2.out;clear ho3 hf3 HO1 HA1)
   |(go_at_call 203;(with_reducible refine (Rname_says y1 (by have:=HS0.out;omega) _).mono ?_);rintro e w3 ⟨v,rfl,ho,hb⟩;obtain ⟨p3,m3,c3,rfl⟩:=own_slice ho;have HO3:=hid ho;have HA3:=hid (own_kept HA2.out hb);have HQ3:=hid (HQ2.out.trans (RF.of hb));have HE3:=Qe HE2 hb;clear ho hb)
   |(at_builtin;refine append_rowW rfl _ _ rfl wB.heap.size _ _ _ _ _ w3 HA3.out HO3.out HN2.out HQ3.out.size (RF.refl _ _) rfl rfl ?_;intro p4 m4 c4 w4 ho3 hf3;have HA4:=hid ho3;have HQ4:=hid (HQ3.out.trans hf3);have HE4:=hid (HE3.out.rf hf3 (by decide));obtain ⟨t0,t1,t2,t3,t4,t5,t6,t7,t8,t9,t10,t11,t12⟩:=ca13 HE4.out;clear ho3 hf3 HO3 HA3)
   |(at_builtin;refine append_rowW rfl _ _ rfl wB.heap.size _ _ _ _ _ (w4.alloc (Qc #[.int .u8 (s2%256)] 5)) (own_kept HA4.out ((QB _ _).alloc (Ql _) _)) (own_less (own_lit1 w4 s2) HQ4.out.size) HN3.out (HQ4.out.alloc (Qc #[.int .u8 (s2%256)] 5)).size (RF.refl _ _) rfl rfl ?_;intro p5 m5 c5 w5 ho3 hf3;have HA5:=hid ho3;have HQ5:=hid ((HQ4.out.alloc (Qc #[.int .u8 (s2%256)] 5)).trans hf3);have HE5:=hid ((HE4.out.alloc (Qc #[.int .u8 (s2%256)] 5)).rf hf3 (by decide));obtain ⟨v0,v1,v2,v3,v4,v5,v6,v7,v8,v9,v10,v11,v12⟩:=ca13 HE5.out;clear ho3 hf3 HA4))
  clear u0 t0 x0 u1 t1 x1 u2 t2 x2 u3 t3 x3 u4 t4 x4 u5 t5 x5 u6 t6 x6 u7 t7 x7 u8 t8 x8 u9 t9 x9 u10 t10 x10 u11 t11 x11 u12 t12 x12 HE HE1 HE2 HE3 HE4 HF1 HQ1 HQ2 HQ3 HQ4 HR1 HA2 HR HF yf
  generalize hU:C++strL y0++strL y1++[byI s2]=U at *
  have HU:=hid hU
  clear hU
  rcases KD.out with rfl|rfl|rfl|rfl
  ·have HT:Hid (tlL 0 s3 s4 s5 s6 e7 s8 s9 e10 s11 e12=uI s3):=rfl
   rw[HT.out]at HN4 HSN
   go_wp2_with (first
    |(go_at_call 133;(with_reducible refine (RU_says s3 _).mono ?_);rintro e w6 ⟨v,rfl,ho,hb⟩;obtain ⟨p6,m6,c6,rfl⟩:=own_slice ho;have HO6:=hid ho;have HA6:=hid (own_kept HA5.out hb);have HQ6:=hid (HQ5.out.trans (RF.of hb));clear ho hb)
    |(at_builtin;refine append_rowW rfl _ _ rfl wB.heap.size _ _ _ _ _ w6 HA6.out HO6.out HN4.out HQ6.out.size (RF.refl _ _) rfl rfl ?_;intro p7 m7 c7 w7 ho3 hf3;have HA7:=hid ho3;have HQ7:=hid (HQ6.out.trans hf3);clear ho3 hf3))
   go_roundw
   case rel =>
    refine ⟨i+1,p7,m7,c7,hlt,by go_num,rfl,?_,HQ7⟩
    have h:=HA7.out
    rw[←HU.out]at h
    rw[HSN.out]
    simpa[Hid,QS]using h
   case measure=>simp[intOf];omega
  ·have HT:Hid (tlL 1 s3 s4 s5 s6 e7 s8 s9 e10 s11 e12=tabL s4 s5 s6 e7):=rfl
   rw[HT.out]at HN4 HSN
   go_wp2_with (first
    |(go_at_call 204;(with_reducible refine (Rtab_says s4 s5 s6 e7 _).mono ?_);rintro e w6 ⟨v,rfl,ho,hb⟩;obtain ⟨p6,m6,c6,rfl⟩:=own_slice ho;have HO6:=hid ho;have HA6:=hid (own_kept HA5.out hb);have HQ6:=hid (HQ5.out.trans (RF.of hb));clear ho hb)
    |(at_builtin;refine append_rowW rfl _ _ rfl wB.heap.size _ _ _ _ _ w6 HA6.out HO6.out HN4.out HQ6.out.size (RF.refl _ _) rfl rfl ?_;intro p7 m7 c7 w7 ho3 hf3;have HA7:=hid ho3;have HQ7:=hid (HQ6.out.trans hf3);clear ho3 hf3))
   go_roundw
   case rel =>
    refine ⟨i+1,p7,m7,c7,hlt,by go_num,rfl,?_,HQ7⟩
    have h:=HA7.out
    rw[←HU.out]at h
    rw[HSN.out]
    simpa[Hid,QS]using h
   case measure=>simp[intOf];omega
  ·have HT:Hid (tlL 2 s3 s4 s5 s6 e7 s8 s9 e10 s11 e12=limL s8 s9 e10):=rfl
   rw[HT.out]at HN4 HSN
   go_wp2_with (first
    |(go_at_call 205;(with_reducible refine (Rlim_says s8 s9 e10 _).mono ?_);rintro e w6 ⟨v,rfl,ho,hb⟩;obtain ⟨p6,m6,c6,rfl⟩:=own_slice ho;have HO6:=hid ho;have HA6:=hid (own_kept HA5.out hb);have HQ6:=hid (HQ5.out.trans (RF.of hb));clear ho hb)
    |(at_builtin;refine append_rowW rfl _ _ rfl wB.heap.size _ _ _ _ _ w6 HA6.out HO6.out HN4.out HQ6.out.size (RF.refl _ _) rfl rfl ?_;intro p7 m7 c7 w7 ho3 hf3;have HA7:=hid ho3;have HQ7:=hid (HQ6.out.trans hf3);clear ho3 hf3))
   go_roundw
   case rel =>
    refine ⟨i+1,p7,m7,c7,hlt,by go_num,rfl,?_,HQ7⟩
    have h:=HA7.out
    rw[←HU.out]at h
    rw[HSN.out]
    simpa[Hid,QS]using h
   case measure=>simp[intOf];omega
  have HT:Hid (tlL 3 s3 s4 s5 s6 e7 s8 s9 e10 s11 e12=gloL s11 e12):=rfl
  rw[HT.out]at HN4 HSN
  go_wp2_with (first
   |(go_at_call 206;(with_reducible refine (Rglo_says s11 e12 _).mono ?_);rintro e w6 ⟨v,rfl,ho,hb⟩;obtain ⟨p6,m6,c6,rfl⟩:=own_slice ho;have HO6:=hid ho;have HA6:=hid (own_kept HA5.out hb);have HQ6:=hid (HQ5.out.trans (RF.of hb));clear ho hb)
   |(at_builtin;refine append_rowW rfl _ _ rfl wB.heap.size _ _ _ _ _ w6 HA6.out HO6.out HN4.out HQ6.out.size (RF.refl _ _) rfl rfl ?_;intro p7 m7 c7 w7 ho3 hf3;have HA7:=hid ho3;have HQ7:=hid (HQ6.out.trans hf3);clear ho3 hf3))
  go_roundw
  case rel =>
   refine ⟨i+1,p7,m7,c7,hlt,by go_num,rfl,?_,HQ7⟩
   have h:=HA7.out
   rw[←HU.out]at h
   rw[HSN.out]
   simpa[Hid,QS]using h
  case measure=>simp[intOf];omega
 have hie:imn=i:=by omega
 subst hie
 have HOW1:=hid (own_kept HOW.out (HF.out.below (Ql _)))
 clear yf hi hlt
 have yf:=HX.out.at (k:=1) (v:=V imp imn imc) rfl
 go_upto_region 27 with (first
  |(go_at_call 132;(with_reducible refine (HS2.out _ _ _ HR.out).mono ?_);rintro e w2 ⟨v,rfl,ho,hb⟩;obtain ⟨pB,mB,cB,rfl⟩:=own_slice ho;have HOB:=hid ho;have HOW2:=hid (own_kept HOW1.out hb);have HB2:=Qd HB hb;have HX2:=Qe HX hb;clear ho hb)
  |(at_builtin;refine append_rowW rfl _ _ rfl w.heap.size _ _ _ _ _ w2 HOW2.out HOB.out HNa.out HB2.out.size (RF.refl _ _) rfl rfl ?_;intro pC mC cC wC ho3 hf3;have HOC:=hid ho3;have HB3:=hid (HB2.out.trans (hf3.below HB2.out.size));have HX3:=hid (HX2.out.rf hf3 (by decide));clear ho3 hf3))
 clear yf HR HF HB HX HB1 HX1 HOW HOW1 HOW2 HOB HB2 HX2
 have yf:=HX3.out.at (k:=2) (v:=V fp fn fc) rfl
 go_wp2
 go_loopw [10,11] (fun vo vi wr=>∃(i:Nat) (p:Option Addr) (q c:Nat),i≤fn∧vi=I J i∧vo=V p q c∧Hid (wr.ownsRow wC.heap.size 5 1 (V p q c) (flB i FF).length (QY (flB i FF)))∧Hid (RF wC.heap.size wC wr)) (fun _ vi _=>fn-(intOf vi).toNat)
 case atStart=>exact ⟨0,none,0,0,Qz _,rfl,rfl,own_nil _ _,RF.refl _ _⟩
 clear yf
 obtain ⟨i,p0,m0,c0,hi,rfl,rfl,HR,HF⟩:=hrel
 have HB:=hid (HB3.out.trans ((HF.out.below (Ql _)).mono HB3.out.size))
 have HX:=hid (HX3.out.below (HF.out.below (Ql _)) HX3.out.lt)
 have yf:=HX.out.at (k:=2) (v:=V fp fn fc) rfl
 by_cases hlt:i<fn
 ·as_aux_lemma =>
  have z0:=HfX.out i hlt
  obtain ⟨hpe,hg⟩:=HfG.out (by omega)
  subst hpe
  clear yf
  have yf:=HX.out.at (k:=2) (v:=V (some ⟨fblk,foff,none⟩) fn fc) rfl
  have x0:=(HB.out.cell (p:=⟨fblk,foff+i*3,none⟩) hg).trans z0
  have Z0:=hid z0
  have HGL:=hid hg
  clear z0 hg
  have HLE:=hid (Qk (flB_le FF hlt) HfN.out)
  have HSN:=hid (show flB (i+1) FF=flB i FF++uI (ft0 i) by rw[HFF.out];rfl)
  have l1:=uI_len (ft0 i)
  generalize ft0 i=s0 at *
  have l0:(flB i FF).length≤1000000000000:=Qk (flB_le FF (Qo hlt)) HfN.out
  have HN1:=hid (show (flB i FF).length+(uI s0).length≤140737488355000 by omega)
  clear l0 l1
  go_wp2_with (first
   |(go_at_call 133;(with_reducible refine (RU_says s0 _).mono ?_);rintro e w1 ⟨v,rfl,ho,hb⟩;obtain ⟨p1,m1,c1,rfl⟩:=own_slice ho;have HO1:=hid ho;have HA1:=hid (own_kept HR.out hb);have HQ1:=hid (HF.out.trans (RF.of hb));clear ho hb)
   |(at_builtin;refine append_rowW rfl _ _ rfl wC.heap.size _ _ _ _ _ w1 HA1.out HO1.out HN1.out HQ1.out.size (RF.refl _ _) rfl rfl ?_;intro p2 m2 c2 w2 ho3 hf3;have HA2:=hid ho3;have HQ2:=hid (HQ1.out.trans hf3);clear ho3 hf3))
  go_roundw
  case rel=>exact ⟨i+1,p2,m2,c2,hlt,by go_num,rfl,by rw[HSN.out];exact HA2.out,HQ2⟩
  case measure=>simp[intOf];omega
 have hie:fn=i:=by omega
 subst hie
 have HOW1:=hid (own_kept HOC.out (HF.out.below (Ql _)))
 clear yf hi hlt
 have yf:=HX.out.at (k:=2) (v:=V fp fn fc) rfl
 go_wp2_with (first
  |(go_at_call 132;(with_reducible refine (HS3.out _ _ _ HR.out).mono ?_);rintro e w4 ⟨v,rfl,ho,hb⟩;obtain ⟨pB,mB,cB,rfl⟩:=own_slice ho;have HOB:=hid ho;have HOW2:=hid (own_kept HOW1.out hb);have HB4:=Qd HB hb;clear ho hb)
  |(at_builtin;refine append_rowW rfl _ _ rfl w.heap.size _ _ _ _ _ w4 HOW2.out HOB.out HNb.out HB4.out.size (RF.refl _ _) rfl rfl ?_;intro pD mD cD w5 ho3 hf3;have HOD:=hid ho3;have HB5:=hid (HB4.out.trans (hf3.below HB4.out.size));clear ho3 hf3))
 go_ret
 exact ⟨_,rfl,HOD.out,HB5.out⟩
theorem uI_one (x:Nat) (h:x<128):uI x=[byI x]:=by
 unfold uI
 rw[show ((x:Int)%18446744073709551616).toNat=x by omega,ulist_small h]
 congr 1
 apply UInt8.toNat.inj
 have:=byI_nat (x:Int)
 have h2:x.toUInt8.toNat=x%256:=by simp
 rw[h2]
 omega
theorem szR_small (x:Int):szL (uI x)=byI ((uI x).length:Nat)::uI x:=by
 have:=uI_len x
 unfold szL
 rw[uI_one _ (by omega)]
 rfl
theorem wrap_i8 (x:Int) (h0:-9223372036854775808≤x) (h1:x<9223372036854775808):IntKind.i64.wrap x=x:=by
 simp[IntKind.wrap,IntKind.signed,IntKind.bits]
 omega
theorem own_apart {w1 W:World} {B1 B:Nat} {v1 v:Value} {n1 n:Nat} {xs1 xs:List Value} (h1:w1.ownsRow B1 5 1 v1 n1 xs1) (h:W.ownsRow B 5 1 v n xs) (hB:W.heap.size≤B1):v1.ownBlock=none∨v1.ownBlock≠v.ownBlock:=by
 rcases h1.2 with ⟨rfl,_⟩|⟨g,cap,cur,rfl,hb,_⟩
 ·exact .inl rfl
 refine .inr (fun e=>?_)
 have:=(h.lt g e.symm).2
 omega
theorem append_rowG {w:World} {ops:Array Oper} {rest:List Oper} {o:Oper} {a:Act} {Q:Exit→Act→World→Prop} (hgd:o.guard=none) (s x:Operand)
  (ho:o.op=.call { callee:=.builtin .append,args:=#[s,x],argTypes:=#[52,52] }) (B B2:Nat) (xs ys:List UInt8) (v v2:Value) (W0:World) (hown:w.ownsRow B 5 1 v xs.length (QY xs)) (hown2:w.ownsRow B2 5 1 v2 ys.length (QY ys))
  (hn:xs.length+ys.length≤140737488355000) (hB:B≤W0.heap.size) (hf:RF B W0 w) (hs:a.eval s=v) (hx:a.eval x=v2)
  (h:∀p m c w',w'.ownsRow B 5 1 (V p m c) (xs++ys).length (QY (xs++ys))→RF B W0 w'→w.grownBy w' v.ownBlock→wpList QP ops Q rest (a.put o.dst (V p m c)) w') :
  wpList QP ops Q (o::rest) a w:=by
 refine wpList_plain hgd fun K hK=>?_
 obtain ⟨v',w',hrun,r1,r2⟩:=run_app w B B2 o.type xs ys v v2 hown hown2 hn (Qk hB hf.size)
 obtain ⟨p,m,c,rfl⟩:=own_slice r1
 unfold Oper.wp
 simp[execOp,ho,resolve,invoke,builtin,hs,hx,hrun,Result.andThen]
 exact hK _ _ (h _ _ _ _ r1 (hf.trans (RF.grown hown r2)) r2)
theorem own_lit2n (w:World) (q:Int) (b:UInt8) (hq:(b.toNat:Int)=q) (n:Int):(w.alloc (Qc #[.int .u8 q,.int .u8 (n%256)] 5)).ownsRow w.heap.size 5 1 (V (some ⟨w.heap.size,0,none⟩) 2 2) [b,byI n].length (QY [b,byI n]):=by
 have:=World.ownsRow_lit (base:=w.heap.size) (e:=5) (size:=1) w #[.int .u8 q,.int .u8 (n%256)] 2 (Ql _) (by decide) rfl
 have e:QY [b,byI n]=[.int .u8 q,.int .u8 (n%256)]:=by simp[QY,byI_nat,hq]
 rw[e]
 exact this
theorem Rmid_says (tp imp fp tbp mp gp xp ep dp:Option Addr) (tn tc imn imc fn fc tbn tbc mn mc gn gc xn xc en ec dn dc:Nat) (st:Int) (cnt:Bool) (tbblk tboff:Nat) (tbt0:Nat→Int) (tbt1:Nat→Int) (tbt2:Nat→Int) (tbu3:Nat→Bool) (mblk moff:Nat) (mt0:Nat→Int) (mt1:Nat→Int) (mu2:Nat→Bool) (gblk goff:Nat) (gt0:Nat→Int) (gu1:Nat→Bool) (gp2:Nat→Option Addr) (gn2 gc2:Nat→Nat) (xblk xoff:Nat) (xz0:Nat→ByteArray) (xt1:Nat→Int) (xt2:Nat→Int) (gE:Nat→List UInt8) (w:World)
  (htbl:tbn<9223372036854775807) (htbg:tbn≠0→tbp=some ⟨tbblk,tboff,none⟩∧tbblk<w.heap.size)
  (htbx:∀i,i<tbn→w.cell? ⟨tbblk,tboff+i*4,none⟩=some (I J (tbt0 i))∧w.cell? ⟨tbblk,tboff+i*4+1,none⟩=some (I J (tbt1 i))∧w.cell? ⟨tbblk,tboff+i*4+2,none⟩=some (I J (tbt2 i))∧w.cell? ⟨tbblk,tboff+i*4+3,none⟩=some (G (tbu3 i)))
  (hml:mn<9223372036854775807) (hmg:mn≠0→mp=some ⟨mblk,moff,none⟩∧mblk<w.heap.size)
  (hmx:∀i,i<mn→w.cell? ⟨mblk,moff+i*3,none⟩=some (I J (mt0 i))∧w.cell? ⟨mblk,moff+i*3+1,none⟩=some (I J (mt1 i))∧w.cell? ⟨mblk,moff+i*3+2,none⟩=some (G (mu2 i)))
  (hgl:gn<9223372036854775807) (hgg:gn≠0→gp=some ⟨gblk,goff,none⟩∧gblk<w.heap.size)
  (hgx:∀i,i<gn→w.cell? ⟨gblk,goff+i*3,none⟩=some (I J (gt0 i))∧w.cell? ⟨gblk,goff+i*3+1,none⟩=some (G (gu1 i))∧w.cell? ⟨gblk,goff+i*3+2,none⟩=some (V (gp2 i) (gn2 i) (gc2 i)))
  (hxl:xn<9223372036854775807) (hxg:xn≠0→xp=some ⟨xblk,xoff,none⟩∧xblk<w.heap.size)
  (hxx:∀i,i<xn→w.cell? ⟨xblk,xoff+i*3,none⟩=some (Qs (xz0 i))∧w.cell? ⟨xblk,xoff+i*3+1,none⟩=some (I J (xt1 i))∧w.cell? ⟨xblk,xoff+i*3+2,none⟩=some (I J (xt2 i)))
  (hgE:∀i,i<gn→∀W,Below w.heap.size w W→Calls QP 27 #[V (gp2 i) (gn2 i) (gc2 i)] W (BO W (gE i))) (hxS:∀i,i<xn→(xz0 i).size≤1000) (hst:0≤st∧st<9223372036854775808)
  (htbN:(flB tbn (fun i=>tabL (tbt0 i) (tbt1 i) (tbt2 i) (tbu3 i))).length≤1000000000000) (hmN:(flB mn (fun i=>limL (mt0 i) (mt1 i) (mu2 i))).length≤1000000000000) (hgN:(flB gn (fun i=>gloL (gt0 i) (gu1 i)++gE i)).length≤1000000000000) (hxN:(flB xn (fun i=>strL (xz0 i)++[byI (xt1 i)]++uI (xt2 i))).length≤1000000000000) :
  Calls QP 130 #[.agg #[V tp tn tc,V imp imn imc,V fp fn fc,V tbp tbn tbc,V mp mn mc,V gp gn gc,V xp xn xc,I J st,V ep en ec,V dp dn dc,G cnt]] w (BO w (secL 4 tbn (flB tbn (fun i=>tabL (tbt0 i) (tbt1 i) (tbt2 i) (tbu3 i)))++secL 5 mn (flB mn (fun i=>limL (mt0 i) (mt1 i) (mu2 i)))++secL 6 gn (flB gn (fun i=>gloL (gt0 i) (gu1 i)++gE i))++secL 7 xn (flB xn (fun i=>strL (xz0 i)++[byI (xt1 i)]++uI (xt2 i)))++starL st)):=by
 have HtbG:=hid htbg
 have HtbX:=hid htbx
 have ntb62:(tbn:Int)<9223372036854775807:=by omega
 have HmG:=hid hmg
 have HmX:=hid hmx
 have nm62:(mn:Int)<9223372036854775807:=by omega
 have HgG:=hid hgg
 have HgX:=hid hgx
 have ng62:(gn:Int)<9223372036854775807:=by omega
 have HxG:=hid hxg
 have HxX:=hid hxx
 have nx62:(xn:Int)<9223372036854775807:=by omega
 have HgE:=hid hgE
 have HxS:=hid hxS
 have HST:=hid hst
 obtain ⟨FTB,hFTB⟩:∃F:Nat→List UInt8,F=(fun i=>tabL (tbt0 i) (tbt1 i) (tbt2 i) (tbu3 i)):=⟨_,rfl⟩
 rw[←hFTB]at htbN ⊢
 have HFTB:=hid hFTB
 have HtbN:=hid htbN
 obtain ⟨FM,hFM⟩:∃F:Nat→List UInt8,F=(fun i=>limL (mt0 i) (mt1 i) (mu2 i)):=⟨_,rfl⟩
 rw[←hFM]at hmN ⊢
 have HFM:=hid hFM
 have HmN:=hid hmN
 obtain ⟨FG,hFG⟩:∃F:Nat→List UInt8,F=(fun i=>gloL (gt0 i) (gu1 i)++gE i):=⟨_,rfl⟩
 rw[←hFG]at hgN ⊢
 have HFG:=hid hFG
 have HgN:=hid hgN
 obtain ⟨FX,hFX⟩:∃F:Nat→List UInt8,F=(fun i=>strL (xz0 i)++[byI (xt1 i)]++uI (xt2 i)):=⟨_,rfl⟩
 rw[←hFX]at hxN ⊢
 have HFX:=hid hFX
 have HxN:=hid hxN
 obtain ⟨X0,hX0⟩:∃X,X=secL 4 tbn (flB tbn FTB):=⟨_,rfl⟩
 have e0:=secR_len 4 tbn (flB tbn FTB)
 rw[←hX0]at e0 ⊢
 have HNs0:=hid (show (flB tbn FTB).length+100≤140737488355000 by omega)
 have HS0:=hid (fun (v:Value) (B:Nat) (W:World) h=>(show Calls QP 132 #[.int .u8 4,I J tbn,v] W (BO W X0) by rw[hX0];exact Rsec_says 4 (by decide) (by decide) tbn v (flB tbn FTB) B W h HNs0.out))
 obtain ⟨X1,hX1⟩:∃X,X=secL 5 mn (flB mn FM):=⟨_,rfl⟩
 have e1:=secR_len 5 mn (flB mn FM)
 rw[←hX1]at e1 ⊢
 have HNs1:=hid (show (flB mn FM).length+100≤140737488355000 by omega)
 have HS1:=hid (fun (v:Value) (B:Nat) (W:World) h=>(show Calls QP 132 #[.int .u8 5,I J mn,v] W (BO W X1) by rw[hX1];exact Rsec_says 5 (by decide) (by decide) mn v (flB mn FM) B W h HNs1.out))
 obtain ⟨X2,hX2⟩:∃X,X=secL 6 gn (flB gn FG):=⟨_,rfl⟩
 have e2:=secR_len 6 gn (flB gn FG)
 rw[←hX2]at e2 ⊢
 have HNs2:=hid (show (flB gn FG).length+100≤140737488355000 by omega)
 have HS2:=hid (fun (v:Value) (B:Nat) (W:World) h=>(show Calls QP 132 #[.int .u8 6,I J gn,v] W (BO W X2) by rw[hX2];exact Rsec_says 6 (by decide) (by decide) gn v (flB gn FG) B W h HNs2.out))
 obtain ⟨X3,hX3⟩:∃X,X=secL 7 xn (flB xn FX):=⟨_,rfl⟩
 have e3:=secR_len 7 xn (flB xn FX)
 rw[←hX3]at e3 ⊢
 have HNs3:=hid (show (flB xn FX).length+100≤140737488355000 by omega)
 have HS3:=hid (fun (v:Value) (B:Nat) (W:World) h=>(show Calls QP 132 #[.int .u8 7,I J xn,v] W (BO W X3) by rw[hX3];exact Rsec_says 7 (by decide) (by decide) xn v (flB xn FX) B W h HNs3.out))
 have HNa1:=hid (show (X0).length+X1.length≤140737488355000 by first|omega|(simp only[QA];omega))
 have HNa2:=hid (show (X0++X1).length+X2.length≤140737488355000 by first|omega|(simp only[QA];omega))
 have HNa3:=hid (show (X0++X1++X2).length+X3.length≤140737488355000 by first|omega|(simp only[QA];omega))
 have q9:=uI_len (st-1)
 have HNa4:=hid (show (X0++X1++X2++X3).length+([8,byI ((uI (st-1)).length:Nat)]:List UInt8).length≤140737488355000 by simp only[QA,QC,QN];omega)
 have HNa5:=hid (show (X0++X1++X2++X3++[8,byI ((uI (st-1)).length:Nat)]).length+(uI (st-1)).length≤140737488355000 by simp only[QA,QC,QN];omega)
 have HX0:=hid (CA.new w #[V tp tn tc,V imp imn imc,V fp fn fc,V tbp tbn tbc,V mp mn mc,V gp gn gc,V xp xn xc,I J st,V ep en ec,V dp dn dc,G cnt] 32)
 have HB0:=hid ((QB w.heap.size w).alloc (Ql _) (Qc #[V tp tn tc,V imp imn imc,V fp fn fc,V tbp tbn tbc,V mp mn mc,V gp gn gc,V xp xn xc,I J st,V ep en ec,V dp dn dc,G cnt] 32))
 clear htbg htbx htbl hmg hmx hml hgg hgx hgl hxg hxx hxl hgE hxS hst hFTB htbN hFM hmN hFG hgN hFX hxN hX0 e0 hX1 e1 hX2 e2 hX3 e3 q9
 go_enter Tryz.func130,Tryz.ntmps130
 go_upto_region 1 with fail
 generalize w.alloc (Qc #[V tp tn tc,V imp imn imc,V fp fn fc,V tbp tbn tbc,V mp mn mc,V gp gn gc,V xp xn xc,I J st,V ep en ec,V dp dn dc,G cnt] 32)=W0 at *
 have HBW:=HB0
 have HXW:=HX0
 clear HB0 HX0
 have yf:=HXW.out.at (k:=3) (v:=V tbp tbn tbc) rfl
 go_wp2
 go_loopw [3,4] (fun vo vi wr=>∃(i:Nat) (p:Option Addr) (q c:Nat),i≤tbn∧vi=I J i∧vo=V p q c∧Hid (wr.ownsRow W0.heap.size 5 1 (V p q c) (flB i FTB).length (QY (flB i FTB)))∧Hid (RF W0.heap.size W0 wr)) (fun _ vi _=>tbn-(intOf vi).toNat)
 case atStart=>exact ⟨0,none,0,0,Qz _,rfl,rfl,own_nil _ _,RF.refl _ _⟩
 clear yf
 obtain ⟨i,p0,m0,c0,hi,rfl,rfl,HR,HF⟩:=hrel
 have HB:=hid (HBW.out.trans ((HF.out.below (Ql _)).mono HBW.out.size))
 have HX:=hid (HXW.out.below (HF.out.below (Ql _)) HXW.out.lt)
 have yf:=HX.out.at (k:=3) (v:=V tbp tbn tbc) rfl
 by_cases hlt:i<tbn
 ·as_aux_lemma =>
  obtain ⟨z0,z1,z2,z3⟩:=HtbX.out i hlt
  obtain ⟨hpe,hg⟩:=HtbG.out (by omega)
  subst hpe
  clear yf
  have yf:=HX.out.at (k:=3) (v:=V (some ⟨tbblk,tboff,none⟩) tbn tbc) rfl
  have x0:=(HB.out.cell (p:=⟨tbblk,tboff+i*4,none⟩) hg).trans z0
  have x1:=(HB.out.cell (p:=⟨tbblk,tboff+i*4+1,none⟩) hg).trans z1
  have x2:=(HB.out.cell (p:=⟨tbblk,tboff+i*4+2,none⟩) hg).trans z2
  have x3:=(HB.out.cell (p:=⟨tbblk,tboff+i*4+3,none⟩) hg).trans z3
  have Z0:=hid z0
  have Z1:=hid z1
  have Z2:=hid z2
  have Z3:=hid z3
  have HGL:=hid hg
  clear z0 z1 z2 z3 hg
  have HLE:=hid (Qk (flB_le FTB hlt) HtbN.out)
  have HSN:=hid (show flB (i+1) FTB=flB i FTB++(tabL (tbt0 i) (tbt1 i) (tbt2 i) (tbu3 i)) by rw[HFTB.out];rfl)
  generalize tbt0 i=s0 at *
  generalize tbt1 i=s1 at *
  generalize tbt2 i=s2 at *
  generalize tbu3 i=e3 at *
  have l0:(flB i FTB++(tabL s0 s1 s2 e3)).length≤1000000000000:=by rw[←HSN.out];exact HLE.out
  rw[QA]at l0
  have HN1:=hid (show (flB i FTB).length+(tabL s0 s1 s2 e3).length≤140737488355000 by omega)
  clear l0
  go_wp2_with (first
   |(go_at_call 204;(with_reducible refine (Rtab_says s0 s1 s2 e3 _).mono ?_);rintro e w1 ⟨v,rfl,ho,hb⟩;obtain ⟨p1,m1,c1,rfl⟩:=own_slice ho;have HO1:=hid ho;have HA1:=hid (own_kept HR.out hb);have HQ1:=hid (HF.out.trans (RF.of hb));clear ho hb)
   |(at_builtin;refine append_rowW rfl _ _ rfl W0.heap.size _ _ _ _ _ w1 HA1.out HO1.out HN1.out HQ1.out.size (RF.refl _ _) rfl rfl ?_;intro p2 m2 c2 w2 ho3 hf3;have HA2:=hid ho3;have HQ2:=hid (HQ1.out.trans hf3);clear ho3 hf3))
  go_roundw
  case rel=>exact ⟨i+1,p2,m2,c2,hlt,by go_num,rfl,by rw[HSN.out];exact HA2.out,HQ2⟩
  case measure=>simp[intOf];omega
 have hie:tbn=i:=by omega
 subst hie
 clear yf hi hlt
 have yf:=HX.out.at (k:=3) (v:=V tbp tbn tbc) rfl
 go_upto_region 7 with (go_at_call 132;(with_reducible refine (HS0.out _ _ _ HR.out).mono ?_);rintro e wB0 ⟨v,rfl,ho,hb⟩;obtain ⟨pA0,mA0,cA0,rfl⟩:=own_slice ho;have HOW0:=hid (own_less ho HB.out.size);have HBW0:=Qd HB hb;have HXW0:=Qe HX hb;clear ho hb)
 clear yf HR HF HB HX HBW HXW
 have HOW:=HOW0
 have HBW:=HBW0
 have HXW:=HXW0
 clear HOW0 HBW0 HXW0
 have yf:=HXW.out.at (k:=4) (v:=V mp mn mc) rfl
 go_wp2
 go_loopw [6,7] (fun vo vi wr=>∃(i:Nat) (p:Option Addr) (q c:Nat),i≤mn∧vi=I J i∧vo=V p q c∧Hid (wr.ownsRow wB0.heap.size 5 1 (V p q c) (flB i FM).length (QY (flB i FM)))∧Hid (RF wB0.heap.size wB0 wr)) (fun _ vi _=>mn-(intOf vi).toNat)
 case atStart=>exact ⟨0,none,0,0,Qz _,rfl,rfl,own_nil _ _,RF.refl _ _⟩
 clear yf
 obtain ⟨i,p0,m0,c0,hi,rfl,rfl,HR,HF⟩:=hrel
 have HB:=hid (HBW.out.trans ((HF.out.below (Ql _)).mono HBW.out.size))
 have HX:=hid (HXW.out.below (HF.out.below (Ql _)) HXW.out.lt)
 have yf:=HX.out.at (k:=4) (v:=V mp mn mc) rfl
 by_cases hlt:i<mn
 ·as_aux_lemma =>
  obtain ⟨z0,z1,z2⟩:=HmX.out i hlt
  obtain ⟨hpe,hg⟩:=HmG.out (by omega)
  subst hpe
  clear yf
  have yf:=HX.out.at (k:=4) (v:=V (some ⟨mblk,moff,none⟩) mn mc) rfl
  have x0:=(HB.out.cell (p:=⟨mblk,moff+i*3,none⟩) hg).trans z0
  have x1:=(HB.out.cell (p:=⟨mblk,moff+i*3+1,none⟩) hg).trans z1
  have x2:=(HB.out.cell (p:=⟨mblk,moff+i*3+2,none⟩) hg).trans z2
  have Z0:=hid z0
  have Z1:=hid z1
  have Z2:=hid z2
  have HGL:=hid hg
  clear z0 z1 z2 hg
  have HLE:=hid (Qk (flB_le FM hlt) HmN.out)
  have HSN:=hid (show flB (i+1) FM=flB i FM++(limL (mt0 i) (mt1 i) (mu2 i)) by rw[HFM.out];rfl)
  generalize mt0 i=s0 at *
  generalize mt1 i=s1 at *
  generalize mu2 i=e2 at *
  have l0:(flB i FM++(limL s0 s1 e2)).length≤1000000000000:=by rw[←HSN.out];exact HLE.out
  rw[QA]at l0
  have HN1:=hid (show (flB i FM).length+(limL s0 s1 e2).length≤140737488355000 by omega)
  clear l0
  go_wp2_with (first
   |(go_at_call 205;(with_reducible refine (Rlim_says s0 s1 e2 _).mono ?_);rintro e w1 ⟨v,rfl,ho,hb⟩;obtain ⟨p1,m1,c1,rfl⟩:=own_slice ho;have HO1:=hid ho;have HA1:=hid (own_kept HR.out hb);have HQ1:=hid (HF.out.trans (RF.of hb));clear ho hb)
   |(at_builtin;refine append_rowW rfl _ _ rfl wB0.heap.size _ _ _ _ _ w1 HA1.out HO1.out HN1.out HQ1.out.size (RF.refl _ _) rfl rfl ?_;intro p2 m2 c2 w2 ho3 hf3;have HA2:=hid ho3;have HQ2:=hid (HQ1.out.trans hf3);clear ho3 hf3))
  go_roundw
  case rel=>exact ⟨i+1,p2,m2,c2,hlt,by go_num,rfl,by rw[HSN.out];exact HA2.out,HQ2⟩
  case measure=>simp[intOf];omega
 have hie:mn=i:=by omega
 subst hie
 have HOW1:=hid (own_kept HOW.out (HF.out.below (Ql _)))
 clear yf hi hlt
 have yf:=HX.out.at (k:=4) (v:=V mp mn mc) rfl
 go_upto_region 13 with (first
  |(go_at_call 132;(with_reducible refine (HS1.out _ _ _ HR.out).mono ?_);rintro e w2 ⟨v,rfl,ho,hb⟩;obtain ⟨pB,mB,cB,rfl⟩:=own_slice ho;have HOB:=hid ho;have HOW2:=hid (own_kept HOW1.out hb);have HB2:=Qd HB hb;have HX2:=Qe HX hb;clear ho hb)
  |(at_builtin;refine append_rowW rfl _ _ rfl w.heap.size _ _ _ _ _ w2 HOW2.out HOB.out HNa1.out HB2.out.size (RF.refl _ _) rfl rfl ?_;intro pA1 mA1 cA1 wB1 ho3 hf3;have HOWn:=hid ho3;have HB3:=hid (HB2.out.trans (hf3.below HB2.out.size));have HX3:=hid (HX2.out.rf hf3 (by decide));clear ho3 hf3))
 clear yf HR HF HB HX HBW HXW HOW HOW1 HOW2 HOB HB2 HX2
 have HOW:=HOWn
 have HBW:=HB3
 have HXW:=HX3
 clear HOWn HB3 HX3
 have yf:=HXW.out.at (k:=5) (v:=V gp gn gc) rfl
 go_wp2
 go_loopw [8,9] (fun vo vi wr=>∃(i:Nat) (p:Option Addr) (q c:Nat),i≤gn∧vi=I J i∧vo=V p q c∧Hid (wr.ownsRow wB1.heap.size 5 1 (V p q c) (flB i FG).length (QY (flB i FG)))∧Hid (RF wB1.heap.size wB1 wr)) (fun _ vi _=>gn-(intOf vi).toNat)
 case atStart=>exact ⟨0,none,0,0,Qz _,rfl,rfl,own_nil _ _,RF.refl _ _⟩
 clear yf
 obtain ⟨i,p0,m0,c0,hi,rfl,rfl,HR,HF⟩:=hrel
 have HB:=hid (HBW.out.trans ((HF.out.below (Ql _)).mono HBW.out.size))
 have HX:=hid (HXW.out.below (HF.out.below (Ql _)) HXW.out.lt)
 have yf:=HX.out.at (k:=5) (v:=V gp gn gc) rfl
 by_cases hlt:i<gn
 ·as_aux_lemma =>
  obtain ⟨z0,z1,z2⟩:=HgX.out i hlt
  obtain ⟨hpe,hg⟩:=HgG.out (by omega)
  subst hpe
  clear yf
  have yf:=HX.out.at (k:=5) (v:=V (some ⟨gblk,goff,none⟩) gn gc) rfl
  have x0:=(HB.out.cell (p:=⟨gblk,goff+i*3,none⟩) hg).trans z0
  have x1:=(HB.out.cell (p:=⟨gblk,goff+i*3+1,none⟩) hg).trans z1
  have x2:=(HB.out.cell (p:=⟨gblk,goff+i*3+2,none⟩) hg).trans z2
  have Z0:=hid z0
  have Z1:=hid z1
  have Z2:=hid z2
  have HGL:=hid hg
  clear z0 z1 z2 hg
  have HLE:=hid (Qk (flB_le FG hlt) HgN.out)
  have KE:=fun W h=>hid (HgE.out i hlt W h)
  have HSN:=hid (show flB (i+1) FG=flB i FG++(gloL (gt0 i) (gu1 i)++gE i) by rw[HFG.out];rfl)
  generalize gt0 i=s0 at *
  generalize gu1 i=e1 at *
  generalize gp2 i=q2 at *
  generalize gn2 i=m2 at *
  generalize gc2 i=d2 at *
  generalize gE i=XE at *
  have l0:(flB i FG++(gloL s0 e1++XE)).length≤1000000000000:=by rw[←HSN.out];exact HLE.out
  simp only[QA]at l0
  have HN1:=hid (show (flB i FG).length+(gloL s0 e1).length≤140737488355000 by omega)
  have HN2:=hid (show (flB i FG++gloL s0 e1).length+XE.length≤140737488355000 by rw[QA];omega)
  clear l0
  go_wp2_with (first
   |(go_at_call 206;(with_reducible refine (Rglo_says s0 e1 _).mono ?_);rintro e w1 ⟨v,rfl,ho,hb⟩;obtain ⟨p1,m1,c1,rfl⟩:=own_slice ho;have HO1:=hid ho;have HA1:=hid (own_kept HR.out hb);have HQ1:=hid (HF.out.trans (RF.of hb));have HB1:=Qd HB hb;have HX1:=Qe HX hb;clear ho hb)
   |(at_builtin;refine append_rowW rfl _ _ rfl wB1.heap.size _ _ _ _ _ w1 HA1.out HO1.out HN1.out HQ1.out.size (RF.refl _ _) rfl rfl ?_;intro p2 m2 c2 w2 ho3 hf3;have HA2:=hid ho3;have HQ2:=hid (HQ1.out.trans hf3);have HB2:=hid (HBW.out.trans ((HQ2.out.below (Ql _)).mono HBW.out.size));have HX2:=hid (HX1.out.rf hf3 (by decide));have ygHB2:=HX2.out.at (k:=5) (v:=V (some ⟨gblk,goff,none⟩) gn gc) rfl;have xHB20:=(HB2.out.cell (p:=⟨gblk,goff+i*3,none⟩) HGL.out).trans Z0.out;have xHB21:=(HB2.out.cell (p:=⟨gblk,goff+i*3+1,none⟩) HGL.out).trans Z1.out;have xHB22:=(HB2.out.cell (p:=⟨gblk,goff+i*3+2,none⟩) HGL.out).trans Z2.out;clear ho3 hf3)
   |(go_at_call 27;(with_reducible refine ((KE _ HB2.out).out).mono ?_);rintro e w3 ⟨v,rfl,ho,hb⟩;obtain ⟨p3,m3,c3,rfl⟩:=own_slice ho;have HO3:=hid ho;have HA3:=hid (own_kept HA2.out hb);have HQ3:=hid (HQ2.out.trans (RF.of hb));clear ho hb)
   |(at_builtin;refine append_rowW rfl _ _ rfl wB1.heap.size _ _ _ _ _ w3 HA3.out HO3.out HN2.out HQ3.out.size (RF.refl _ _) rfl rfl ?_;intro p4 m4 c4 w4 ho3 hf3;have HA4:=hid ho3;have HQ4:=hid (HQ3.out.trans hf3);clear ho3 hf3))
  go_roundw
  case rel =>
   refine ⟨i+1,p4,m4,c4,hlt,by go_num,rfl,?_,HQ4⟩
   rw[HSN.out]
   simpa[Hid,QS]using HA4.out
  case measure=>simp[intOf];omega
 have hie:gn=i:=by omega
 subst hie
 have HOW1:=hid (own_kept HOW.out (HF.out.below (Ql _)))
 clear yf hi hlt
 have yf:=HX.out.at (k:=5) (v:=V gp gn gc) rfl
 go_upto_region 20 with (first
  |(go_at_call 132;(with_reducible refine (HS2.out _ _ _ HR.out).mono ?_);rintro e w2 ⟨v,rfl,ho,hb⟩;obtain ⟨pB,mB,cB,rfl⟩:=own_slice ho;have HOB:=hid ho;have HOW2:=hid (own_kept HOW1.out hb);have HB2:=Qd HB hb;have HX2:=Qe HX hb;clear ho hb)
  |(at_builtin;refine append_rowW rfl _ _ rfl w.heap.size _ _ _ _ _ w2 HOW2.out HOB.out HNa2.out HB2.out.size (RF.refl _ _) rfl rfl ?_;intro pA2 mA2 cA2 wB2 ho3 hf3;have HOWn:=hid ho3;have HB3:=hid (HB2.out.trans (hf3.below HB2.out.size));have HX3:=hid (HX2.out.rf hf3 (by decide));clear ho3 hf3))
 clear yf HR HF HB HX HBW HXW HOW HOW1 HOW2 HOB HB2 HX2
 have HOW:=HOWn
 have HBW:=HB3
 have HXW:=HX3
 clear HOWn HB3 HX3
 have yf:=HXW.out.at (k:=6) (v:=V xp xn xc) rfl
 go_wp2
 go_loopw [10,11] (fun vo vi wr=>∃(i:Nat) (p:Option Addr) (q c:Nat),i≤xn∧vi=I J i∧vo=V p q c∧Hid (wr.ownsRow wB2.heap.size 5 1 (V p q c) (flB i FX).length (QY (flB i FX)))∧Hid (RF wB2.heap.size wB2 wr)) (fun _ vi _=>xn-(intOf vi).toNat)
 case atStart=>exact ⟨0,none,0,0,Qz _,rfl,rfl,own_nil _ _,RF.refl _ _⟩
 clear yf
 obtain ⟨i,p0,m0,c0,hi,rfl,rfl,HR,HF⟩:=hrel
 have HB:=hid (HBW.out.trans ((HF.out.below (Ql _)).mono HBW.out.size))
 have HX:=hid (HXW.out.below (HF.out.below (Ql _)) HXW.out.lt)
 have yf:=HX.out.at (k:=6) (v:=V xp xn xc) rfl
 by_cases hlt:i<xn
 ·as_aux_lemma =>
  obtain ⟨z0,z1,z2⟩:=HxX.out i hlt
  obtain ⟨hpe,hg⟩:=HxG.out (by omega)
  subst hpe
  clear yf
  have yf:=HX.out.at (k:=6) (v:=V (some ⟨xblk,xoff,none⟩) xn xc) rfl
  have x0:=(HB.out.cell (p:=⟨xblk,xoff+i*3,none⟩) hg).trans z0
  have x1:=(HB.out.cell (p:=⟨xblk,xoff+i*3+1,none⟩) hg).trans z1
  have x2:=(HB.out.cell (p:=⟨xblk,xoff+i*3+2,none⟩) hg).trans z2
  have Z0:=hid z0
  have Z1:=hid z1
  have Z2:=hid z2
  have HGL:=hid hg
  clear z0 z1 z2 hg
  have HLE:=hid (Qk (flB_le FX hlt) HxN.out)
  have HSZ0:=hid (HxS.out i hlt)
  have HSN:=hid (show flB (i+1) FX=flB i FX++(strL (xz0 i)++[byI (xt1 i)]++uI (xt2 i)) by rw[HFX.out];rfl)
  generalize xz0 i=y0 at *
  generalize xt1 i=s1 at *
  generalize xt2 i=s2 at *
  have l0:(flB i FX++(strL y0++[byI s1]++uI s2)).length≤1000000000000:=by rw[←HSN.out];exact HLE.out
  simp only[QA,QC,QN]at l0
  have HN1:=hid (show (flB i FX).length+(strL y0).length≤140737488355000 by omega)
  have HN2:=hid (show (flB i FX++strL y0).length+([byI s1]:List UInt8).length≤140737488355000 by simp only[QA,QC,QN];omega)
  have HN3:=hid (show (flB i FX++strL y0++[byI s1]).length+(uI s2).length≤140737488355000 by simp only[QA,QC,QN];omega)
  have HE:=hid (CA.new wr #[Qs y0,I J s1,I J s2] 76)
  have HF1:=hid (HF.out.alloc (Qc #[Qs y0,I J s1,I J s2] 76))
  have HR1:=hid (own_kept HR.out ((QB _ _).alloc (Ql _) (Qc #[Qs y0,I J s1,I J s2] 76)))
  clear l0
  go_wp2_with (first
   |(go_at_call 203;(with_reducible refine (Rname_says y0 (by have:=HSZ0.out;omega) _).mono ?_);rintro e w1 ⟨v,rfl,ho,hb⟩;obtain ⟨p1,m1,c1,rfl⟩:=own_slice ho;have HO1:=hid ho;have HA1:=hid (own_kept HR1.out hb);have HQ1:=hid (HF1.out.trans (RF.of hb));have HE1:=Qe HE hb;clear ho hb)
   |(at_builtin;refine append_rowW rfl _ _ rfl wB2.heap.size _ _ _ _ _ w1 HA1.out HO1.out HN1.out HQ1.out.size (RF.refl _ _) rfl rfl ?_;intro p2 m2 c2 w2 ho3 hf3;have HA2:=hid ho3;have HQ2:=hid (HQ1.out.trans hf3);have HE2:=hid (HE1.out.rf hf3 (by decide));have u0:=HE2.out.at (k:=0) (v:=Qs y0) rfl;have u1:=HE2.out.at (k:=1) (v:=I J s1) rfl;have u2:=HE2.out.at (k:=2) (v:=I J s2) rfl;clear HA1 HO1;clear ho3 hf3)
   |(at_builtin;refine append_rowW rfl _ _ rfl wB2.heap.size _ _ _ _ _ (w2.alloc (Qc #[.int .u8 (s1%256)] 5)) (own_kept HA2.out ((QB _ _).alloc (Ql _) _)) (own_less (own_lit1 w2 s1) HQ2.out.size) HN2.out (HQ2.out.alloc (Qc #[.int .u8 (s1%256)] 5)).size (RF.refl _ _) rfl rfl ?_;intro p3 m3 c3 w3 ho3 hf3;have HA3:=hid ho3;have HQ3:=hid ((HQ2.out.alloc (Qc #[.int .u8 (s1%256)] 5)).trans hf3);have HE3:=hid ((HE2.out.alloc (Qc #[.int .u8 (s1%256)] 5)).rf hf3 (by decide));have v0:=HE3.out.at (k:=0) (v:=Qs y0) rfl;have v1:=HE3.out.at (k:=1) (v:=I J s1) rfl;have v2:=HE3.out.at (k:=2) (v:=I J s2) rfl;clear ho3 hf3 HA2)
   |(go_at_call 133;(with_reducible refine (RU_says s2 _).mono ?_);rintro e w4 ⟨v,rfl,ho,hb⟩;obtain ⟨p4,m4,c4,rfl⟩:=own_slice ho;have HO4:=hid ho;have HA4:=hid (own_kept HA3.out hb);have HQ4:=hid (HQ3.out.trans (RF.of hb));clear ho hb)
   |(at_builtin;refine append_rowW rfl _ _ rfl wB2.heap.size _ _ _ _ _ w4 HA4.out HO4.out HN3.out HQ4.out.size (RF.refl _ _) rfl rfl ?_;intro p5 m5 c5 w5 ho3 hf3;have HA5:=hid ho3;have HQ5:=hid (HQ4.out.trans hf3);clear ho3 hf3))
  go_roundw
  case rel =>
   refine ⟨i+1,p5,m5,c5,hlt,by go_num,rfl,?_,HQ5⟩
   rw[HSN.out]
   simpa[Hid,QS]using HA5.out
  case measure=>simp[intOf];omega
 have hie:xn=i:=by omega
 subst hie
 have HOW1:=hid (own_kept HOW.out (HF.out.below (Ql _)))
 clear yf hi hlt
 have yf:=HX.out.at (k:=6) (v:=V xp xn xc) rfl
 go_upto_region 29 with (first
  |(go_at_call 132;(with_reducible refine (HS3.out _ _ _ HR.out).mono ?_);rintro e w2 ⟨v,rfl,ho,hb⟩;obtain ⟨pB,mB,cB,rfl⟩:=own_slice ho;have HOB:=hid ho;have HOW2:=hid (own_kept HOW1.out hb);have HB2:=Qd HB hb;have HX2:=Qe HX hb;clear ho hb)
  |(at_builtin;refine append_rowW rfl _ _ rfl w.heap.size _ _ _ _ _ w2 HOW2.out HOB.out HNa3.out HB2.out.size (RF.refl _ _) rfl rfl ?_;intro pA3 mA3 cA3 wB3 ho3 hf3;have HOWn:=hid ho3;have HB3:=hid (HB2.out.trans (hf3.below HB2.out.size));have HX3:=hid (HX2.out.rf hf3 (by decide));clear ho3 hf3))
 clear yf HR HF HB HX HBW HXW HOW HOW1 HOW2 HOB HB2 HX2
 have HOW:=HOWn
 have HBW:=HB3
 have HXW:=HX3
 clear HOWn HB3 HX3
 have y7:=HXW.out.at (k:=7) (v:=I J st) rfl
 generalize hU:X0++X1++X2++X3=U at *
 obtain ⟨Y,hY⟩:∃Y,Y=uI (st-1):=⟨_,rfl⟩
 rw[←hY]at HNa4 HNa5
 clear hU
 by_cases hz:st=0
 ·subst hz
  have HE:=hid (show U++starL 0=U by simp[starL])
  go_wp2
  go_ret
  refine ⟨_,rfl,?_,HBW.out⟩
  rw[HE.out]
  exact HOW.out
 have HE:=hid (show U++starL st=U++[8,byI Y.length]++Y by unfold starL;rw[if_neg hz,szR_small,hY];simp)
 have hgt:=HST.out
 have hgd:decide (0<st)=true:=decide_eq_true (by omega)
 have hw2:wrap64 (st-1)=st-1:=by unfold wrap64;omega
 have hw1:IntKind.i64.wrap (st-1)=st-1:=wrap_i8 _ (by omega) (by omega)
 have hgp:(0<st)=True:=by simp only[eq_iff_iff,iff_true];omega
 have HRU:=fun W=>hid (show Calls QP 133 #[I J (st-1)] W (BO W Y) by rw[hY];exact RU_says (st-1) W)
 clear hz hY hgt
 go_wp2_with (first
  |(go_at_call 133;(with_reducible refine (HRU _).out.mono ?_);rintro e w1 ⟨v,rfl,ho,hb⟩;obtain ⟨p1,c1,rfl⟩:=own_sliceN ho;have HO1:=hid ho;have HAP:=hid (own_apart ho HOW.out (Ql _));have HA1:=hid (own_kept HOW.out hb);have HQ1:=Qd HBW hb;clear ho hb)
  |(at_builtin;refine append_rowG rfl _ _ rfl w.heap.size _ _ _ _ _ (w1.alloc (Qc #[.int .u8 8,.int .u8 ((Y.length:Int)%256)] 5)) (own_kept HA1.out ((QB _ _).alloc (Ql _) _)) (own_less (own_lit2n w1 8 8 rfl Y.length) HQ1.out.size) HNa4.out (HQ1.out.alloc HQ1.out.size (Qc #[.int .u8 8,.int .u8 ((Y.length:Int)%256)] 5)).size (RF.refl _ _) rfl rfl ?_;intro p2 m2 c2 w2 ho3 hf3 hg3;have HA2:=hid ho3;have HY2:=hid (World.ownsRow.kept (own_kept HO1.out ((QB _ _).alloc (Ql _) (Qc #[.int .u8 8,.int .u8 ((Y.length:Int)%256)] 5))) hg3 HAP.out);have HQ2:=hid ((HQ1.out.alloc HQ1.out.size (Qc #[.int .u8 8,.int .u8 ((Y.length:Int)%256)] 5)).trans (hf3.below (HQ1.out.alloc HQ1.out.size (Qc #[.int .u8 8,.int .u8 ((Y.length:Int)%256)] 5)).size));clear ho3 hf3 hg3 HA1)
  |(at_builtin;refine append_rowW rfl _ _ rfl w.heap.size _ _ _ _ _ w2 HA2.out HY2.out HNa5.out HQ2.out.size (RF.refl _ _) rfl rfl ?_;intro p3 m3 c3 w3 ho3 hf3;have HA3:=hid ho3;have HQ3:=hid (HQ2.out.trans (hf3.below HQ2.out.size));clear ho3 hf3))
 go_ret
 refine ⟨_,rfl,?_,HQ3.out⟩
 rw[HE.out]
 exact HA3.out
end Go.Proofs.YtjgeedgphcjhoaaGreat
