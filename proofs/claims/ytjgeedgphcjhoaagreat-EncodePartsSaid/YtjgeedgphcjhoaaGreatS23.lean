/-
  WMod2, RLim: merged, what the law does not reach left out (each text says what it holds where it lies in wip). No condition.
-/
import Derived.Test.YtjgeedgphcjhoaaGreatS22
import Derived.Deep.DeepCutAuto
import Derived.Test.YtjgeedgphcjhoaaGreatS15
import Derived.Deep.RegionHeld3
import Derived.Test.YtjgeedgphcjhoaaGreatS01
set_option linter.unusedSimpArgs false
set_option linter.unusedVariables false
set_option maxRecDepth 100000
set_option maxHeartbeats 64000000
namespace Go.Proofs.YtjgeedgphcjhoaaGreat
open Go.RowKit
open Value renaming int → I,slice → V,bool → G,string → Qs,pointer → Qp
open IntKind renaming i64 → J
open Ending renaming returned → Qr
open Obj renaming cells → Qc
open _root_.Go.Proofs.Tryz renaming prog → QP
open Nat renaming le_refl → Ql,le_trans → Qk
open List renaming length_append → QA,length_cons → QC,length_nil → QN
open Below renaming refl → QB
open Act renaming put → Qu
open Lib renaming byteCells → QY
theorem secL_len (id:Int) (n:Nat) (b:List UInt8):(secL id n b).length≤b.length+21:=by
 unfold secL
 split
 ·simp
 have h1:=uI_len n
 have h2:=uI_len (uI n++b).length
 unfold szL
 simp only[QC,QA]at h2 ⊢
 omega
theorem szu_len (n:Int):(szL (uI n)).length≤20:=by
 have h1:=uI_len n
 have h2:=uI_len (uI n).length
 unfold szL
 rw[QA]
 omega
theorem cl_start (B g bw bm:Nat) (ztp zimp zfp ztbp zmp zgp zxp zep zdp:Option Addr) (ztn ztc zimn zimc zfn zfc ztbn ztbc zmn zmc zgn zgc zxn zxc zen zec zdn zdc:Nat) (zst:Int) (zcnt:Bool) (w:World) (hst:zst≠-9223372036854775808) (hs2:i64B zst) (hbw:CA bw #[Qp (some ⟨g,0,none⟩)] 135 w) (hbm:CA bm #[V ztp ztn ztc,V zimp zimn zimc,V zfp zfn zfc,V ztbp ztbn ztbc,V zmp zmn zmc,V zgp zgn zgc,V zxp zxn zxc,I J zst,V zep zen zec,V zdp zdn zdc,G zcnt] 32 w) (hw:WR B g [] w) :
  Calls QP 119 #[Qp (some ⟨bw,0,none⟩),Qp (some ⟨bm,0,none⟩)] w fun e w'=>e=Qr (.tuple #[])∧WR B g (uI (zst-1)) w'∧FR B g w w':=by
 have HU:=hid (u_says B g [] (zst-1) w hw.1 hw (by decide))
 rw[List.nil_append]at HU
 have y0:=hbw.at (k:=0) (v:=Qp (some ⟨g,0,none⟩)) rfl
 have x7:=hbm.at (k:=7) (v:=I J zst) rfl
 have hwr:wrap64 (zst-1)=zst-1:=by have:=hs2.1;have:=hs2.2;unfold wrap64;omega
 clear hbw hbm hw hst hs2
 go_enter Tryz.func119,Tryz.ntmps119
 go_wp2_with (go_at_call 105;(with_reducible refine HU.out.mono ?_);rintro e w1 ⟨rfl,hw',hf⟩;have HW1:=hid hw';have HF1:=hid hf;clear hw' hf)
 (first|go_end0|refine bodyPost_ret (results_none rfl _ _ _) rfl ?_)
 exact ⟨rfl,HW1.out,HF1.out⟩
theorem cl_count (B g bw bm:Nat) (ztp zimp zfp ztbp zmp zgp zxp zep zdp:Option Addr) (ztn ztc zimn zimc zfn zfc ztbn ztbc zmn zmc zgn zgc zxn zxc zen zec zdn zdc:Nat) (zst:Int) (zcnt:Bool) (w:World) (hbw:CA bw #[Qp (some ⟨g,0,none⟩)] 135 w) (hbm:CA bm #[V ztp ztn ztc,V zimp zimn zimc,V zfp zfn zfc,V ztbp ztbn ztbc,V zmp zmn zmc,V zgp zgn zgc,V zxp zxn zxc,I J zst,V zep zen zec,V zdp zdn zdc,G zcnt] 32 w) (hw:WR B g [] w) :
  Calls QP 123 #[Qp (some ⟨bw,0,none⟩),Qp (some ⟨bm,0,none⟩)] w fun e w'=>e=Qr (.tuple #[])∧WR B g (uI zdn) w'∧FR B g w w':=by
 have HU:=hid (u_says B g [] (zdn) w hw.1 hw (by decide))
 rw[List.nil_append]at HU
 have y0:=hbw.at (k:=0) (v:=Qp (some ⟨g,0,none⟩)) rfl
 have x9:=hbm.at (k:=9) (v:=V zdp zdn zdc) rfl
 clear hbw hbm hw
 go_enter Tryz.func123,Tryz.ntmps123
 go_wp2_with (go_at_call 105;(with_reducible refine HU.out.mono ?_);rintro e w1 ⟨rfl,hw',hf⟩;have HW1:=hid hw';have HF1:=hid hf;clear hw' hf)
 (first|go_end0|refine bodyPost_ret (results_none rfl _ _ _) rfl ?_)
 exact ⟨rfl,HW1.out,HF1.out⟩
theorem encMod_no (M:MD) (w:World) (h:M.ok w.heap.size w) (hf:FitM M) (hm:mayP M=false) :
  Calls QP 23 #[M.val] w fun e w'=>e=Qr (.tuple #[V none 0 0,I J 1])∧Below w.heap.size w w':=by
 have HMay:=fun (W:World) (hW:Below w.heap.size w W)=>hid (May_M ((h.below hW).mono hW.size) hf)
 rw[hm]at HMay
 unfold MD.val at *
 have HX0:=hid (CA.new w #[V M.tp M.tn M.tc,V M.imp M.imn M.imc,V M.fp M.fn M.fc,V M.tbp M.tbn M.tbc,V M.mp M.mn M.mc,V M.gp M.gn M.gc,V M.xp M.xn M.xc,I J M.st,V M.ep M.en M.ec,V M.dp M.dn M.dc,G M.cnt] 32)
 have HB0:=hid ((QB w.heap.size w).alloc (Ql _) (Qc #[V M.tp M.tn M.tc,V M.imp M.imn M.imc,V M.fp M.fn M.fc,V M.tbp M.tbn M.tbc,V M.mp M.mn M.mc,V M.gp M.gn M.gc,V M.xp M.xn M.xc,I J M.st,V M.ep M.en M.ec,V M.dp M.dn M.dc,G M.cnt] 32))
 clear h hf hm
 generalize M.tp=ztp at *
 generalize M.tn=ztn at *
 generalize M.tc=ztc at *
 generalize M.imp=zimp at *
 generalize M.imn=zimn at *
 generalize M.imc=zimc at *
 generalize M.fp=zfp at *
 generalize M.fn=zfn at *
 generalize M.fc=zfc at *
 generalize M.tbp=ztbp at *
 generalize M.tbn=ztbn at *
 generalize M.tbc=ztbc at *
 generalize M.mp=zmp at *
 generalize M.mn=zmn at *
 generalize M.mc=zmc at *
 generalize M.gp=zgp at *
 generalize M.gn=zgn at *
 generalize M.gc=zgc at *
 generalize M.xp=zxp at *
 generalize M.xn=zxn at *
 generalize M.xc=zxc at *
 generalize M.ep=zep at *
 generalize M.en=zen at *
 generalize M.ec=zec at *
 generalize M.dp=zdp at *
 generalize M.dn=zdn at *
 generalize M.dc=zdc at *
 generalize M.st=zst at *
 generalize M.cnt=zcnt at *
 obtain ⟨x0,x1,x2,x3,x4,x5,x6,x7,x8,x9,x10⟩:=ca11 HX0.out
 go_enter Tryz.func23,Tryz.ntmps23
 go_wp2_with (go_at_call 15;(with_reducible refine (HMay _ HB0.out).out.mono ?_);rintro e w1 ⟨rfl,hb⟩;have HB1:=Qd HB0 hb;clear hb)
 go_ret2
 exact ⟨rfl,HB1.out⟩
theorem encMod_yes (M:MD) (w:World) (h:M.ok w.heap.size w) (hf:FitM M) (hm:mayP M=true) :
  Calls QP 23 #[M.val] w fun e w'=>∃p n c,e=Qr (.tuple #[V p n c,I J 0])∧BytesAt w'.heap.size w' (V p n c) (modL M)∧Below w.heap.size w w':=by
 have hmf:=may_f h hm
 have HMay:=fun (W:World) (hW:Below w.heap.size w W)=>hid (May_M ((h.below hW).mono hW.size) hf)
 rw[hm]at HMay
 have goods:∀i,i<M.en→Goods (M.e i).ng (M.e i).g:=fun i hi=>⟨(hf.e i hi).2,fun k hk=>few_lt (hf.ek i hi k hk),hmf.ek i hi,fun k hk=>few_siz (hf.ek i hi k hk)⟩
 have l_t:(secL 1 M.tn (flB M.tn fun i=>mtL (M.t i))).length≤1000000000100:=by
  have h1:=flB_small (n:=M.tn) (P:=fun i=>mtL (M.t i)) (k:=3000) hf.tn (fun i hi=>mtL_len _ (hf.t i hi).1 (hf.t i hi).2) (by decide)
  have h2:=secL_len 1 M.tn (flB M.tn fun i=>mtL (M.t i))
  omega
 have l_im:(secL 2 M.imn (flB M.imn fun i=>miL (M.im i))).length≤1000000000100:=by
  have h1:=flB_small (n:=M.imn) (P:=fun i=>miL (M.im i)) (k:=3000) hf.imn (fun i hi=>miL_len _ (hf.im i hi).1 (hf.im i hi).2) (by decide)
  have h2:=secL_len 2 M.imn (flB M.imn fun i=>miL (M.im i))
  omega
 have l_fT:(secL 3 M.fn (flB M.fn fun i=>uI (M.f i).ty)).length≤1000000000100:=by
  have h1:=flB_small (n:=M.fn) (P:=fun i=>uI (M.f i).ty) (k:=10) (Qk hf.fn (by decide)) (fun i hi=>uI_len _) (by decide)
  have h2:=secL_len 3 M.fn (flB M.fn fun i=>uI (M.f i).ty)
  omega
 have l_tb:(secL 4 M.tbn (flB M.tbn fun i=>mbL (M.tb i))).length≤1000000000100:=by
  have h1:=flB_small (n:=M.tbn) (P:=fun i=>mbL (M.tb i)) (k:=30) hf.tbn (fun i hi=>(by have:=limL_len (M.tb i).mn (M.tb i).mx (M.tb i).h;simp only[mbL,tabL,QC];omega)) (by decide)
  have h2:=secL_len 4 M.tbn (flB M.tbn fun i=>mbL (M.tb i))
  omega
 have l_m:(secL 5 M.mn (flB M.mn fun i=>mlL (M.m i))).length≤1000000000100:=by
  have h1:=flB_small (n:=M.mn) (P:=fun i=>mlL (M.m i)) (k:=30) hf.mn (fun i hi=>(by have:=limL_len (M.m i).mn (M.m i).mx (M.m i).h;simp only[mlL];omega)) (by decide)
  have h2:=secL_len 5 M.mn (flB M.mn fun i=>mlL (M.m i))
  omega
 have l_g:(secL 6 M.gn (flB M.gn fun i=>mgL (M.g i))).length≤1000000000100:=by
  have h1:=flB_small (n:=M.gn) (P:=fun i=>mgL (M.g i)) (k:=70000000) (Qk hf.gn (by decide)) (fun i hi=>(by have:=codL_len _ (hmf.g i hi) (few_siz (hf.g i hi));simp only[mgL,gloL,QA,QC,QN];omega)) (by decide)
  have h2:=secL_len 6 M.gn (flB M.gn fun i=>mgL (M.g i))
  omega
 have l_x:(secL 7 M.xn (flB M.xn fun i=>mxL (M.x i))).length≤1000000000100:=by
  have h1:=flB_small (n:=M.xn) (P:=fun i=>mxL (M.x i)) (k:=3000) hf.xn (fun i hi=>(by have h1:=strL_len (M.x i).s;have h2:=uI_len (M.x i).ix;have h3:=hf.x i hi;simp only[mxL,QA,QC];omega)) (by decide)
  have h2:=secL_len 7 M.xn (flB M.xn fun i=>mxL (M.x i))
  omega
 have l_e:(secL 9 M.en (flB M.en fun i=>meL (M.e i))).length≤1000000000100:=by
  have h1:=flB_small (n:=M.en) (P:=fun i=>meL (M.e i)) (k:=7000000000) (Qk hf.en (by decide)) (fun i hi=>meL_len _ (hf.e i hi).1 (hmf.e i hi).1 (goods i hi)) (by decide)
  have h2:=secL_len 9 M.en (flB M.en fun i=>meL (M.e i))
  omega
 have l_fF:(secL 10 M.fn (flB M.fn fun i=>mfL (M.f i))).length≤1000000000100:=by
  have h1:=flB_small (n:=M.fn) (P:=fun i=>mfL (M.f i)) (k:=80000000) (Qk hf.fn (by decide)) (fun i hi=>(by have h1:=mfX_len (M.f i).l (M.f i).f (hf.f i hi).2 (hmf.f i hi) (few_siz (hf.f i hi).1);have h2:=uI_len (locL (M.f i).l++codL (M.f i).f).length;unfold mfL szL;rw[QA];omega)) (by decide)
  have h2:=secL_len 10 M.fn (flB M.fn fun i=>mfL (M.f i))
  omega
 have l_d:(secL 11 M.dn (flB M.dn fun i=>mdL (M.d i))).length≤1000000000100:=by
  have h1:=flB_small (n:=M.dn) (P:=fun i=>mdL (M.d i)) (k:=7000000000) (Qk hf.dn (by decide)) (fun i hi=>mdL_len _ (hf.d i hi).1 (hmf.d i hi).1 (hf.d i hi).2) (by decide)
  have h2:=secL_len 11 M.dn (flB M.dn fun i=>mdL (M.d i))
  omega
 have l_ST:(starL M.st).length≤1000000000100:=by
  have:=szu_len (M.st-1)
  unfold starL
  split
  ·simp
  simp only[QC];omega
 have l_CN:(if M.cnt=true then 12::szL (uI M.dn) else []).length≤1000000000100:=by
  have:=szu_len M.dn
  split
  ·simp only[QC];omega
  simp
 have hst:=h.stk
 have hst0:0≤M.st:=by
  have h1:=hm
  unfold mayP at h1
  simp only[Bool.and_eq_true]at h1
  have h2:=h1.1.1.1.2
  rw[start_eq M.st h.stk]at h2
  simp only[Bool.and_eq_true,decide_eq_true_eq]at h2
  exact h2.1
 have HALL:=hid (fun (B g bw L:Nat) (W0:World) (hL:L≤lo B g) (hM:M.ok L W0) (hbw:CA bw #[Qp (some ⟨g,0,none⟩)] 135 W0) (hbg:bw≠g) (hB:B≤W0.heap.size)=>(show (∀W acc,FR B g W0 W→WR0 B g acc W→acc.length≤90000000000000→Calls QP 97 #[Qp (some ⟨g,0,none⟩),I J 1,V M.tp M.tn M.tc,.func (.func 98) #[] #[Qp (some ⟨bw,0,none⟩)]] W fun e w'=>e=Qr (.tuple #[])∧WR0 B g (acc++secL 1 M.tn (flB M.tn fun i=>mtL (M.t i))) w'∧FR B g W w') ∧
  (∀W acc,FR B g W0 W→WR0 B g acc W→acc.length≤90000000000000→Calls QP 100 #[Qp (some ⟨g,0,none⟩),I J 2,V M.imp M.imn M.imc,.func (.func 101) #[] #[Qp (some ⟨bw,0,none⟩)]] W fun e w'=>e=Qr (.tuple #[])∧WR0 B g (acc++secL 2 M.imn (flB M.imn fun i=>miL (M.im i))) w'∧FR B g W w') ∧
  (∀W acc,FR B g W0 W→WR0 B g acc W→acc.length≤90000000000000→Calls QP 103 #[Qp (some ⟨g,0,none⟩),I J 3,V M.fp M.fn M.fc,.func (.func 104) #[] #[Qp (some ⟨bw,0,none⟩)]] W fun e w'=>e=Qr (.tuple #[])∧WR0 B g (acc++secL 3 M.fn (flB M.fn fun i=>uI (M.f i).ty)) w'∧FR B g W w') ∧
  (∀W acc,FR B g W0 W→WR0 B g acc W→acc.length≤90000000000000→Calls QP 106 #[Qp (some ⟨g,0,none⟩),I J 4,V M.tbp M.tbn M.tbc,.func (.func 107) #[] #[Qp (some ⟨bw,0,none⟩)]] W fun e w'=>e=Qr (.tuple #[])∧WR0 B g (acc++secL 4 M.tbn (flB M.tbn fun i=>mbL (M.tb i))) w'∧FR B g W w') ∧
  (∀W acc,FR B g W0 W→WR0 B g acc W→acc.length≤90000000000000→Calls QP 109 #[Qp (some ⟨g,0,none⟩),I J 5,V M.mp M.mn M.mc,.func (.func 110) #[] #[Qp (some ⟨bw,0,none⟩)]] W fun e w'=>e=Qr (.tuple #[])∧WR0 B g (acc++secL 5 M.mn (flB M.mn fun i=>mlL (M.m i))) w'∧FR B g W w') ∧
  (∀W acc,FR B g W0 W→WR0 B g acc W→acc.length≤90000000000000→Calls QP 112 #[Qp (some ⟨g,0,none⟩),I J 6,V M.gp M.gn M.gc,.func (.func 113) #[] #[Qp (some ⟨bw,0,none⟩)]] W fun e w'=>e=Qr (.tuple #[])∧WR0 B g (acc++secL 6 M.gn (flB M.gn fun i=>mgL (M.g i))) w'∧FR B g W w') ∧
  (∀W acc,FR B g W0 W→WR0 B g acc W→acc.length≤90000000000000→Calls QP 115 #[Qp (some ⟨g,0,none⟩),I J 7,V M.xp M.xn M.xc,.func (.func 116) #[] #[Qp (some ⟨bw,0,none⟩)]] W fun e w'=>e=Qr (.tuple #[])∧WR0 B g (acc++secL 7 M.xn (flB M.xn fun i=>mxL (M.x i))) w'∧FR B g W w') ∧
  (∀W acc,FR B g W0 W→WR0 B g acc W→acc.length≤90000000000000→Calls QP 120 #[Qp (some ⟨g,0,none⟩),I J 9,V M.ep M.en M.ec,.func (.func 121) #[] #[Qp (some ⟨bw,0,none⟩)]] W fun e w'=>e=Qr (.tuple #[])∧WR0 B g (acc++secL 9 M.en (flB M.en fun i=>meL (M.e i))) w'∧FR B g W w') ∧
  (∀W acc,FR B g W0 W→WR0 B g acc W→acc.length≤90000000000000→Calls QP 103 #[Qp (some ⟨g,0,none⟩),I J 10,V M.fp M.fn M.fc,.func (.func 124) #[] #[Qp (some ⟨bw,0,none⟩)]] W fun e w'=>e=Qr (.tuple #[])∧WR0 B g (acc++secL 10 M.fn (flB M.fn fun i=>mfL (M.f i))) w'∧FR B g W w') ∧
  (∀W acc,FR B g W0 W→WR0 B g acc W→acc.length≤90000000000000→Calls QP 126 #[Qp (some ⟨g,0,none⟩),I J 11,V M.dp M.dn M.dc,.func (.func 127) #[] #[Qp (some ⟨bw,0,none⟩)]] W fun e w'=>e=Qr (.tuple #[])∧WR0 B g (acc++secL 11 M.dn (flB M.dn fun i=>mdL (M.d i))) w'∧FR B g W w') from ⟨fun W acc hF hW hn=>secM_t B g bw L M W hL hf hmf (hM.below ((hF.belowL hB).mono hL)) (hbw.fr hF (by decide) hbg) hbg acc hW hn,
  fun W acc hF hW hn=>secM_im B g bw L M W hL hf hmf (hM.below ((hF.belowL hB).mono hL)) (hbw.fr hF (by decide) hbg) hbg acc hW hn,
  fun W acc hF hW hn=>secM_fT B g bw L M W hL hf hmf (hM.below ((hF.belowL hB).mono hL)) (hbw.fr hF (by decide) hbg) hbg acc hW hn,
  fun W acc hF hW hn=>secM_tb B g bw L M W hL hf hmf (hM.below ((hF.belowL hB).mono hL)) (hbw.fr hF (by decide) hbg) hbg acc hW hn,
  fun W acc hF hW hn=>secM_m B g bw L M W hL hf hmf (hM.below ((hF.belowL hB).mono hL)) (hbw.fr hF (by decide) hbg) hbg acc hW hn,
  fun W acc hF hW hn=>secM_g B g bw L M W hL hf hmf (hM.below ((hF.belowL hB).mono hL)) (hbw.fr hF (by decide) hbg) hbg acc hW hn,
  fun W acc hF hW hn=>secM_x B g bw L M W hL hf hmf (hM.below ((hF.belowL hB).mono hL)) (hbw.fr hF (by decide) hbg) hbg acc hW hn,
  fun W acc hF hW hn=>secM_e B g bw L M W hL hf hmf (hM.below ((hF.belowL hB).mono hL)) (hbw.fr hF (by decide) hbg) hbg acc hW hn,
  fun W acc hF hW hn=>secM_fF B g bw L M W hL hf hmf (hM.below ((hF.belowL hB).mono hL)) (hbw.fr hF (by decide) hbg) hbg acc hW hn,
  fun W acc hF hW hn=>secM_d B g bw L M W hL hf hmf (hM.below ((hF.belowL hB).mono hL)) (hbw.fr hF (by decide) hbg) hbg acc hW hn⟩))
 have HEM:=hid (show modL M=[0,97,115,109,1,0,0,0]++secL 1 M.tn (flB M.tn fun i=>mtL (M.t i))++secL 2 M.imn (flB M.imn fun i=>miL (M.im i))++secL 3 M.fn (flB M.fn fun i=>uI (M.f i).ty)++secL 4 M.tbn (flB M.tbn fun i=>mbL (M.tb i))++secL 5 M.mn (flB M.mn fun i=>mlL (M.m i))++secL 6 M.gn (flB M.gn fun i=>mgL (M.g i))++secL 7 M.xn (flB M.xn fun i=>mxL (M.x i))++starL M.st++secL 9 M.en (flB M.en fun i=>meL (M.e i))++(if M.cnt=true then 12::szL (uI M.dn) else [])++secL 10 M.fn (flB M.fn fun i=>mfL (M.f i))++secL 11 M.dn (flB M.dn fun i=>mdL (M.d i)) by unfold modL headsL midL;simp only[List.append_assoc])
 generalize secL 1 M.tn (flB M.tn fun i=>mtL (M.t i))=S_t at *
 generalize secL 2 M.imn (flB M.imn fun i=>miL (M.im i))=S_im at *
 generalize secL 3 M.fn (flB M.fn fun i=>uI (M.f i).ty)=S_fT at *
 generalize secL 4 M.tbn (flB M.tbn fun i=>mbL (M.tb i))=S_tb at *
 generalize secL 5 M.mn (flB M.mn fun i=>mlL (M.m i))=S_m at *
 generalize secL 6 M.gn (flB M.gn fun i=>mgL (M.g i))=S_g at *
 generalize secL 7 M.xn (flB M.xn fun i=>mxL (M.x i))=S_x at *
 generalize secL 9 M.en (flB M.en fun i=>meL (M.e i))=S_e at *
 generalize secL 10 M.fn (flB M.fn fun i=>mfL (M.f i))=S_fF at *
 generalize secL 11 M.dn (flB M.dn fun i=>mdL (M.d i))=S_d at *
 obtain ⟨S_ST,hS_ST⟩:∃S,S=starL M.st:=⟨_,rfl⟩
 rw[←hS_ST]at HEM l_ST
 obtain ⟨S_CN,hS_CN⟩:∃S,S=(if M.cnt=true then 12::szL (uI M.dn) else []):=⟨_,rfl⟩
 rw[←hS_CN]at HEM l_CN
 have HS_ST:=hid hS_ST
 have HS_CN:=hid hS_CN
 have N0:=hid (show ([0,97,115,109,1,0,0,0]).length≤80000000000000 by (try simp only[QA,QC,QN]);omega)
 have N1:=hid (show ([0,97,115,109,1,0,0,0]++S_t).length≤80000000000000 by (try simp only[QA,QC,QN]);omega)
 have N2:=hid (show ([0,97,115,109,1,0,0,0]++S_t++S_im).length≤80000000000000 by (try simp only[QA,QC,QN]);omega)
 have N3:=hid (show ([0,97,115,109,1,0,0,0]++S_t++S_im++S_fT).length≤80000000000000 by (try simp only[QA,QC,QN]);omega)
 have N4:=hid (show ([0,97,115,109,1,0,0,0]++S_t++S_im++S_fT++S_tb).length≤80000000000000 by (try simp only[QA,QC,QN]);omega)
 have N5:=hid (show ([0,97,115,109,1,0,0,0]++S_t++S_im++S_fT++S_tb++S_m).length≤80000000000000 by (try simp only[QA,QC,QN]);omega)
 have N6:=hid (show ([0,97,115,109,1,0,0,0]++S_t++S_im++S_fT++S_tb++S_m++S_g).length≤80000000000000 by (try simp only[QA,QC,QN]);omega)
 have N7:=hid (show ([0,97,115,109,1,0,0,0]++S_t++S_im++S_fT++S_tb++S_m++S_g++S_x).length≤80000000000000 by (try simp only[QA,QC,QN]);omega)
 have N8:=hid (show ([0,97,115,109,1,0,0,0]++S_t++S_im++S_fT++S_tb++S_m++S_g++S_x++S_ST).length≤80000000000000 by (try simp only[QA,QC,QN]);omega)
 have N9:=hid (show ([0,97,115,109,1,0,0,0]++S_t++S_im++S_fT++S_tb++S_m++S_g++S_x++S_ST++S_e).length≤80000000000000 by (try simp only[QA,QC,QN]);omega)
 have N10:=hid (show ([0,97,115,109,1,0,0,0]++S_t++S_im++S_fT++S_tb++S_m++S_g++S_x++S_ST++S_e++S_CN).length≤80000000000000 by (try simp only[QA,QC,QN]);omega)
 have N11:=hid (show ([0,97,115,109,1,0,0,0]++S_t++S_im++S_fT++S_tb++S_m++S_g++S_x++S_ST++S_e++S_CN++S_fF).length≤80000000000000 by (try simp only[QA,QC,QN]);omega)
 have NEL:=hid (show ([0,97,115,109,1,0,0,0]++S_t++S_im++S_fT++S_tb++S_m++S_g++S_x++S_ST++S_e++S_CN++S_fF++S_d).length≤80000000000000 by (try simp only[QA,QC,QN]);omega)
 rw[HEM.out]
 have HMOK:=hid h
 have HST:=hid hst
 have HST0:=hid hst0
 clear h hf hm hmf goods hst hst0 hS_ST hS_CN HEM l_t l_im l_fT l_tb l_m l_g l_x l_ST l_e l_CN l_fF l_d
 unfold MD.val at *
 have HX0:=hid (CA.new w #[V M.tp M.tn M.tc,V M.imp M.imn M.imc,V M.fp M.fn M.fc,V M.tbp M.tbn M.tbc,V M.mp M.mn M.mc,V M.gp M.gn M.gc,V M.xp M.xn M.xc,I J M.st,V M.ep M.en M.ec,V M.dp M.dn M.dc,G M.cnt] 32)
 have HB0:=hid ((QB w.heap.size w).alloc (Ql _) (Qc #[V M.tp M.tn M.tc,V M.imp M.imn M.imc,V M.fp M.fn M.fc,V M.tbp M.tbn M.tbc,V M.mp M.mn M.mc,V M.gp M.gn M.gc,V M.xp M.xn M.xc,I J M.st,V M.ep M.en M.ec,V M.dp M.dn M.dc,G M.cnt] 32))
 have hmf:∀(fn:Fn) (first cap:Array Value) (w:World),(Instr.makeFunc fn first cap).run QP w=.ok (.func fn first cap) w:=fun _ _ _ _=>rfl
 have hcv:=fun (w:World) (C:Array Value) (n c:Nat)=>Lib.run_convert_bytes_const (P:=QP) w 52 5 C n c Tryz.underlying52 Tryz.underlying5
 obtain ⟨x0,x1,x2,x3,x4,x5,x6,x7,x8,x9,x10⟩:=ca11 HX0.out
 go_enter Tryz.func23,Tryz.ntmps23
 go_upto_region 3 with (go_at_call 15;(with_reducible refine (HMay _ HB0.out).out.mono ?_);rintro e w1 ⟨rfl,hb⟩;have HB1:=Qd HB0 hb;have HX1:=Qe HX0 hb;clear hb)
 go_upto_region 4 with fail
 clear x0 x1 x2 x3 x4 x5 x6 x7 x8 x9 x10 HMay hcv
 have hB3:Below w1.heap.size w1 (((w1.alloc (Qc #[.int .u8 0,.int .u8 97,.int .u8 115,.int .u8 109,.int .u8 1,.int .u8 0,.int .u8 0,.int .u8 0] 5 (8,9))).alloc (Qc #[V (some ⟨w1.heap.size,0,none⟩) 8 8] 137)).alloc (Qc #[Qp (some ⟨w1.heap.size+1,0,none⟩)] 135)):=(((QB _ _).alloc (Ql _) _).alloc (by rw[size_al];omega) _).alloc (by rw[size_al,size_al];omega) _
 have hsz:(((w1.alloc (Qc #[.int .u8 0,.int .u8 97,.int .u8 115,.int .u8 109,.int .u8 1,.int .u8 0,.int .u8 0,.int .u8 0] 5 (8,9))).alloc (Qc #[V (some ⟨w1.heap.size,0,none⟩) 8 8] 137)).alloc (Qc #[Qp (some ⟨w1.heap.size+1,0,none⟩)] 135)).heap.size=w1.heap.size+1+1+1:=by simp only[size_al]
 have hb2:=CA.new ((w1.alloc (Qc #[.int .u8 0,.int .u8 97,.int .u8 115,.int .u8 109,.int .u8 1,.int .u8 0,.int .u8 0,.int .u8 0] 5 (8,9))).alloc (Qc #[V (some ⟨w1.heap.size,0,none⟩) 8 8] 137)) #[Qp (some ⟨w1.heap.size+1,0,none⟩)] 135
 have hg1:=(CA.new (w1.alloc (Qc #[.int .u8 0,.int .u8 97,.int .u8 115,.int .u8 109,.int .u8 1,.int .u8 0,.int .u8 0,.int .u8 0] 5 (8,9))) #[V (some ⟨w1.heap.size,0,none⟩) 8 8] 137).alloc (Qc #[Qp (some ⟨w1.heap.size+1,0,none⟩)] 135)
 have hh0:(((w1.alloc (Qc #[.int .u8 0,.int .u8 97,.int .u8 115,.int .u8 109,.int .u8 1,.int .u8 0,.int .u8 0,.int .u8 0] 5 (8,9))).alloc (Qc #[V (some ⟨w1.heap.size,0,none⟩) 8 8] 137)).alloc (Qc #[Qp (some ⟨w1.heap.size+1,0,none⟩)] 135)).heap[w1.heap.size]?=some (Qc #[.int .u8 0,.int .u8 97,.int .u8 115,.int .u8 109,.int .u8 1,.int .u8 0,.int .u8 0,.int .u8 0] 5 (8,9)):=by
  have e0:(w1.alloc (Qc #[.int .u8 0,.int .u8 97,.int .u8 115,.int .u8 109,.int .u8 1,.int .u8 0,.int .u8 0,.int .u8 0] 5 (8,9))).heap[w1.heap.size]?=some (Qc #[.int .u8 0,.int .u8 97,.int .u8 115,.int .u8 109,.int .u8 1,.int .u8 0,.int .u8 0,.int .u8 0] 5 (8,9)):=heap_alloc_new w1 _
  have e1:Below (w1.heap.size+1) (w1.alloc (Qc #[.int .u8 0,.int .u8 97,.int .u8 115,.int .u8 109,.int .u8 1,.int .u8 0,.int .u8 0,.int .u8 0] 5 (8,9))) (((w1.alloc (Qc #[.int .u8 0,.int .u8 97,.int .u8 115,.int .u8 109,.int .u8 1,.int .u8 0,.int .u8 0,.int .u8 0] 5 (8,9))).alloc (Qc #[V (some ⟨w1.heap.size,0,none⟩) 8 8] 137)).alloc (Qc #[Qp (some ⟨w1.heap.size+1,0,none⟩)] 135)):=((QB _ _).alloc (by rw[size_al];omega) _).alloc (by rw[size_al,size_al];omega) _
  rw[e1.block w1.heap.size (by omega)]
  exact e0
 simp only[size_al]at hb2 hg1
 have hL1:=HB1.out.size
 have hwl:=HX1.out.lt
 have HBEL:=hid (HB1.out.trans (hB3.mono hL1))
 have HB0:Hid (CA (w1.heap.size+1+1) #[Qp (some ⟨w1.heap.size+1,0,none⟩)] 135 (((w1.alloc (Qc #[.int .u8 0,.int .u8 97,.int .u8 115,.int .u8 109,.int .u8 1,.int .u8 0,.int .u8 0,.int .u8 0] 5 (8,9))).alloc (Qc #[V (some ⟨w1.heap.size,0,none⟩) 8 8] 137)).alloc (Qc #[Qp (some ⟨w1.heap.size+1,0,none⟩)] 135))):=hid hb2
 have HX2:=Qe HX1 hB3
 have HW0:Hid (WR0 w1.heap.size (w1.heap.size+1) [0,97,115,109,1,0,0,0] (((w1.alloc (Qc #[.int .u8 0,.int .u8 97,.int .u8 115,.int .u8 109,.int .u8 1,.int .u8 0,.int .u8 0,.int .u8 0] 5 (8,9))).alloc (Qc #[V (some ⟨w1.heap.size,0,none⟩) 8 8] 137)).alloc (Qc #[Qp (some ⟨w1.heap.size+1,0,none⟩)] 135))):=hid (.inr ⟨rfl,by rw[hsz];omega,w1.heap.size,Ql _,hg1,hh0⟩)
 have HLG:=hid hL1
 obtain ⟨c_t,c_im,c_fT,c_tb,c_m,c_g,c_x,c_e,c_fF,c_d⟩:=HALL.out w1.heap.size (w1.heap.size+1) (w1.heap.size+1+1) w.heap.size (((w1.alloc (Qc #[.int .u8 0,.int .u8 97,.int .u8 115,.int .u8 109,.int .u8 1,.int .u8 0,.int .u8 0,.int .u8 0] 5 (8,9))).alloc (Qc #[V (some ⟨w1.heap.size,0,none⟩) 8 8] 137)).alloc (Qc #[Qp (some ⟨w1.heap.size+1,0,none⟩)] 135)) (le_lo hL1 (by omega)) (HMOK.out.below HBEL.out) hb2 (by omega) (by rw[hsz];omega)
 have HNB:=hid (show w1.heap.size+1+1≠w1.heap.size+1 by omega)
 have HNX:=hid (show w.heap.size≠w1.heap.size+1 by omega)
 have HGE:=hid (show w.heap.size≤w1.heap.size+1 by omega)
 have HBSZ:=hid (show w1.heap.size≤(((w1.alloc (Qc #[.int .u8 0,.int .u8 97,.int .u8 115,.int .u8 109,.int .u8 1,.int .u8 0,.int .u8 0,.int .u8 0] 5 (8,9))).alloc (Qc #[V (some ⟨w1.heap.size,0,none⟩) 8 8] 137)).alloc (Qc #[Qp (some ⟨w1.heap.size+1,0,none⟩)] 135)).heap.size by rw[hsz];omega)
 have H_t:=fun W acc h1 h2 h3=>hid (c_t W acc h1 h2 h3)
 have H_im:=fun W acc h1 h2 h3=>hid (c_im W acc h1 h2 h3)
 have H_fT:=fun W acc h1 h2 h3=>hid (c_fT W acc h1 h2 h3)
 have H_tb:=fun W acc h1 h2 h3=>hid (c_tb W acc h1 h2 h3)
 have H_m:=fun W acc h1 h2 h3=>hid (c_m W acc h1 h2 h3)
 have H_g:=fun W acc h1 h2 h3=>hid (c_g W acc h1 h2 h3)
 have H_x:=fun W acc h1 h2 h3=>hid (c_x W acc h1 h2 h3)
 have H_e:=fun W acc h1 h2 h3=>hid (c_e W acc h1 h2 h3)
 have H_fF:=fun W acc h1 h2 h3=>hid (c_fF W acc h1 h2 h3)
 have H_d:=fun W acc h1 h2 h3=>hid (c_d W acc h1 h2 h3)
 clear c_t c_im c_fT c_tb c_m c_g c_x c_e c_fF c_d HALL HMOK hB3 hsz hb2 hg1 hh0 hL1 hwl HX0 HX1 HB1
 generalize M.tp=ztp at *
 generalize M.tn=ztn at *
 generalize M.tc=ztc at *
 generalize M.imp=zimp at *
 generalize M.imn=zimn at *
 generalize M.imc=zimc at *
 generalize M.fp=zfp at *
 generalize M.fn=zfn at *
 generalize M.fc=zfc at *
 generalize M.tbp=ztbp at *
 generalize M.tbn=ztbn at *
 generalize M.tbc=ztbc at *
 generalize M.mp=zmp at *
 generalize M.mn=zmn at *
 generalize M.mc=zmc at *
 generalize M.gp=zgp at *
 generalize M.gn=zgn at *
 generalize M.gc=zgc at *
 generalize M.xp=zxp at *
 generalize M.xn=zxn at *
 generalize M.xc=zxc at *
 generalize M.ep=zep at *
 generalize M.en=zen at *
 generalize M.ec=zec at *
 generalize M.dp=zdp at *
 generalize M.dn=zdn at *
 generalize M.dc=zdc at *
 generalize M.st=zst at *
 generalize M.cnt=zcnt at *
 generalize (((w1.alloc (Qc #[.int .u8 0,.int .u8 97,.int .u8 115,.int .u8 109,.int .u8 1,.int .u8 0,.int .u8 0,.int .u8 0] 5 (8,9))).alloc (Qc #[V (some ⟨w1.heap.size,0,none⟩) 8 8] 137)).alloc (Qc #[Qp (some ⟨w1.heap.size+1,0,none⟩)] 135))=w2 at *
 generalize w1.heap.size+1+1=bw at *
 generalize w1.heap.size+1=g at *
 generalize w1.heap.size=B at *
 clear w1
 have HF0:=hid (FR.refl B g w2)
 obtain ⟨bm,hbm⟩:∃b,b=w.heap.size:=⟨_,rfl⟩
 have HBM:=hid hbm
 rw[←hbm]at HX2 HNX ⊢
 clear hbm
 have HXa:=fun (W:World) (h:FR B g w2 W)=>hid (HX2.out.fr h (by decide) HNX.out)
 have HBa:=fun (W:World) (h:FR B g w2 W)=>hid (HB0.out.fr h (by decide) HNB.out)
 have HCST:=fun (hz:zst≠0) (W:World) (acc:List UInt8) (h1:FR B g w2 W) (h2:WR0 B g acc W) (h3:acc.length≤90000000000000)=>hid (section0_wm B g 119 (fun _ _=>rfl) #[Qp (some ⟨bw,0,none⟩),Qp (some ⟨bm,0,none⟩)] 8 (uI (zst-1)) W (by have:=uI_len (zst-1);omega) (fun B' W' hBB hF hW=>cl_start B' g bw bm ztp zimp zfp ztbp zmp zgp zxp zep zdp ztn ztc zimn zimc zfn zfc ztbn ztbc zmn zmc zgn zgc zxn zxc zen zec zdn zdc zst zcnt W' (by have:=HST0.out;omega) HST.out ((HBa W h1).out.fr hF (by decide) HNB.out) ((HXa W h1).out.fr hF (by decide) HNX.out) hW) acc h2 h3)
 have HCCN:=fun (W:World) (acc:List UInt8) (h1:FR B g w2 W) (h2:WR0 B g acc W) (h3:acc.length≤90000000000000)=>hid (section0_wm B g 123 (fun _ _=>rfl) #[Qp (some ⟨bw,0,none⟩),Qp (some ⟨bm,0,none⟩)] 12 (uI zdn) W (by have:=uI_len zdn;omega) (fun B' W' hBB hF hW=>cl_count B' g bw bm ztp zimp zfp ztbp zmp zgp zxp zep zdp ztn ztc zimn zimc zfn zfc ztbn ztbc zmn zmc zgn zgc zxn zxc zen zec zdn zdc zst zcnt W' ((HBa W h1).out.fr hF (by decide) HNB.out) ((HXa W h1).out.fr hF (by decide) HNX.out) hW) acc h2 h3)
 have y0:=HB0.out.at (k:=0) (v:=Qp (some ⟨g,0,none⟩)) rfl
 obtain ⟨x0,x1,x2,x3,x4,x5,x6,x7,x8,x9,x10⟩:=ca11 HX2.out
 go_upto_if 49 with (first
  |(go_at_call 97;(with_reducible refine (H_t _ _ HF0.out HW0.out (Qk N0.out (by decide))).out.mono ?_);rintro e v1 ⟨rfl,hw',hf⟩;have HW1:=hid hw';have HF1:=hid (HF0.out.trans hf);clear y0 x0 x1 x2 x3 x4 x5 x6 x7 x8 x9 x10;have HBb1:=HBa _ HF1.out;have HXb1:=HXa _ HF1.out;have y0:=HBb1.out.at (k:=0) (v:=Qp (some ⟨g,0,none⟩)) rfl;obtain ⟨x0,x1,x2,x3,x4,x5,x6,x7,x8,x9,x10⟩:=ca11 HXb1.out;clear hw' hf)
  |(go_at_call 100;(with_reducible refine (H_im _ _ HF1.out HW1.out (Qk N1.out (by decide))).out.mono ?_);rintro e v2 ⟨rfl,hw',hf⟩;have HW2:=hid hw';have HF2:=hid (HF1.out.trans hf);clear y0 x0 x1 x2 x3 x4 x5 x6 x7 x8 x9 x10;have HBb2:=HBa _ HF2.out;have HXb2:=HXa _ HF2.out;have y0:=HBb2.out.at (k:=0) (v:=Qp (some ⟨g,0,none⟩)) rfl;obtain ⟨x0,x1,x2,x3,x4,x5,x6,x7,x8,x9,x10⟩:=ca11 HXb2.out;clear hw' hf)
  |(go_at_call 103;(with_reducible refine (H_fT _ _ HF2.out HW2.out (Qk N2.out (by decide))).out.mono ?_);rintro e v3 ⟨rfl,hw',hf⟩;have HW3:=hid hw';have HF3:=hid (HF2.out.trans hf);clear y0 x0 x1 x2 x3 x4 x5 x6 x7 x8 x9 x10;have HBb3:=HBa _ HF3.out;have HXb3:=HXa _ HF3.out;have y0:=HBb3.out.at (k:=0) (v:=Qp (some ⟨g,0,none⟩)) rfl;obtain ⟨x0,x1,x2,x3,x4,x5,x6,x7,x8,x9,x10⟩:=ca11 HXb3.out;clear hw' hf)
  |(go_at_call 106;(with_reducible refine (H_tb _ _ HF3.out HW3.out (Qk N3.out (by decide))).out.mono ?_);rintro e v4 ⟨rfl,hw',hf⟩;have HW4:=hid hw';have HF4:=hid (HF3.out.trans hf);clear y0 x0 x1 x2 x3 x4 x5 x6 x7 x8 x9 x10;have HBb4:=HBa _ HF4.out;have HXb4:=HXa _ HF4.out;have y0:=HBb4.out.at (k:=0) (v:=Qp (some ⟨g,0,none⟩)) rfl;obtain ⟨x0,x1,x2,x3,x4,x5,x6,x7,x8,x9,x10⟩:=ca11 HXb4.out;clear hw' hf)
  |(go_at_call 109;(with_reducible refine (H_m _ _ HF4.out HW4.out (Qk N4.out (by decide))).out.mono ?_);rintro e v5 ⟨rfl,hw',hf⟩;have HW5:=hid hw';have HF5:=hid (HF4.out.trans hf);clear y0 x0 x1 x2 x3 x4 x5 x6 x7 x8 x9 x10;have HBb5:=HBa _ HF5.out;have HXb5:=HXa _ HF5.out;have y0:=HBb5.out.at (k:=0) (v:=Qp (some ⟨g,0,none⟩)) rfl;obtain ⟨x0,x1,x2,x3,x4,x5,x6,x7,x8,x9,x10⟩:=ca11 HXb5.out;clear hw' hf)
  |(go_at_call 112;(with_reducible refine (H_g _ _ HF5.out HW5.out (Qk N5.out (by decide))).out.mono ?_);rintro e v6 ⟨rfl,hw',hf⟩;have HW6:=hid hw';have HF6:=hid (HF5.out.trans hf);clear y0 x0 x1 x2 x3 x4 x5 x6 x7 x8 x9 x10;have HBb6:=HBa _ HF6.out;have HXb6:=HXa _ HF6.out;have y0:=HBb6.out.at (k:=0) (v:=Qp (some ⟨g,0,none⟩)) rfl;obtain ⟨x0,x1,x2,x3,x4,x5,x6,x7,x8,x9,x10⟩:=ca11 HXb6.out;clear hw' hf)
  |(go_at_call 115;(with_reducible refine (H_x _ _ HF6.out HW6.out (Qk N6.out (by decide))).out.mono ?_);rintro e v7 ⟨rfl,hw',hf⟩;have HW7:=hid hw';have HF7:=hid (HF6.out.trans hf);clear y0 x0 x1 x2 x3 x4 x5 x6 x7 x8 x9 x10;have HBb7:=HBa _ HF7.out;have HXb7:=HXa _ HF7.out;have y0:=HBb7.out.at (k:=0) (v:=Qp (some ⟨g,0,none⟩)) rfl;obtain ⟨x0,x1,x2,x3,x4,x5,x6,x7,x8,x9,x10⟩:=ca11 HXb7.out;clear hw' hf))
 go_cut [] (fun v7b=>Hid (FR B g w2 v7b)∧Hid (WR0 B g ((((((((([0,97,115,109,1,0,0,0])++S_t)++S_im)++S_fT)++S_tb)++S_m)++S_g)++S_x)++S_ST) v7b))
 case rest =>
  obtain ⟨HF8,HW8⟩:=hcut
  clear y0 x0 x1 x2 x3 x4 x5 x6 x7 x8 x9 x10
  have HBb8:=HBa _ HF8.out;have HXb8:=HXa _ HF8.out;have y0:=HBb8.out.at (k:=0) (v:=Qp (some ⟨g,0,none⟩)) rfl;obtain ⟨x0,x1,x2,x3,x4,x5,x6,x7,x8,x9,x10⟩:=ca11 HXb8.out
  go_upto_if 59 with (go_at_call 120;(with_reducible refine (H_e _ _ HF8.out HW8.out (Qk N8.out (by decide))).out.mono ?_);rintro e v9 ⟨rfl,hw',hf⟩;have HW9:=hid hw';have HF9:=hid (HF8.out.trans hf);clear y0 x0 x1 x2 x3 x4 x5 x6 x7 x8 x9 x10;have HBb9:=HBa _ HF9.out;have HXb9:=HXa _ HF9.out;have y0:=HBb9.out.at (k:=0) (v:=Qp (some ⟨g,0,none⟩)) rfl;obtain ⟨x0,x1,x2,x3,x4,x5,x6,x7,x8,x9,x10⟩:=ca11 HXb9.out;clear hw' hf)
  go_cut [] (fun v9b=>Hid (FR B g w2 v9b)∧Hid (WR0 B g ((((((((((([0,97,115,109,1,0,0,0])++S_t)++S_im)++S_fT)++S_tb)++S_m)++S_g)++S_x)++S_ST)++S_e)++S_CN) v9b))
  case rest =>
   obtain ⟨HF10,HW10⟩:=hcut
   clear y0 x0 x1 x2 x3 x4 x5 x6 x7 x8 x9 x10
   have HBb10:=HBa _ HF10.out;have HXb10:=HXa _ HF10.out;have y0:=HBb10.out.at (k:=0) (v:=Qp (some ⟨g,0,none⟩)) rfl;obtain ⟨x0,x1,x2,x3,x4,x5,x6,x7,x8,x9,x10⟩:=ca11 HXb10.out
   go_upto_region 18 with (first
    |(go_at_call 103;(with_reducible refine (H_fF _ _ HF10.out HW10.out (Qk N10.out (by decide))).out.mono ?_);rintro e v11 ⟨rfl,hw',hf⟩;have HW11:=hid hw';have HF11:=hid (HF10.out.trans hf);clear y0 x0 x1 x2 x3 x4 x5 x6 x7 x8 x9 x10;have HBb11:=HBa _ HF11.out;have HXb11:=HXa _ HF11.out;have y0:=HBb11.out.at (k:=0) (v:=Qp (some ⟨g,0,none⟩)) rfl;obtain ⟨x0,x1,x2,x3,x4,x5,x6,x7,x8,x9,x10⟩:=ca11 HXb11.out;clear hw' hf)
    |(go_at_call 126;(with_reducible refine (H_d _ _ HF11.out HW11.out (Qk N11.out (by decide))).out.mono ?_);rintro e v12 ⟨rfl,hw',hf⟩;have HW12:=hid hw';have HF12:=hid (HF11.out.trans hf);clear y0 x0 x1 x2 x3 x4 x5 x6 x7 x8 x9 x10;have HBb12:=HBa _ HF12.out;have HXb12:=HXa _ HF12.out;have y0:=HBb12.out.at (k:=0) (v:=Qp (some ⟨g,0,none⟩)) rfl;obtain ⟨x0,x1,x2,x3,x4,x5,x6,x7,x8,x9,x10⟩:=ca11 HXb12.out;clear hw' hf))
   have HWE:=hid (show WR0 B g ([0,97,115,109,1,0,0,0]++S_t++S_im++S_fT++S_tb++S_m++S_g++S_x++S_ST++S_e++S_CN++S_fF++S_d:List UInt8) _ from HW12.out)
   rcases HWE.out with hwr|⟨he,hwh⟩
   ·obtain ⟨_,u,hcu,hou⟩:=hwr
    obtain ⟨pu,nu,cu,rfl⟩:=own_slice hou
    have y1:=hcu.at (k:=0) (v:=V pu nu cu) rfl
    have HOU:=hid hou
    clear hcu hou
    go_wp2
    go_ret2
    exact ⟨pu,nu,cu,rfl,by simpa using bytes_of_owned HOU.out (Qk NEL.out (by decide)),HBEL.out.trans ((HF12.out.belowL HBSZ.out).mono (le_lo HLG.out HGE.out))⟩
   obtain ⟨_,h0,hBh,hcu,hrw⟩:=hwh
   have y1:=hcu.at (k:=0) (v:=V (some ⟨h0,0,none⟩) 8 8) rfl
   have HRW:=hid hrw
   have HBH:=hid hBh
   have HHE:=hid he
   clear hcu hrw hBh he
   go_wp2
   go_ret2
   refine ⟨some ⟨h0,0,none⟩,8,8,rfl,?_,HBEL.out.trans ((HF12.out.belowL HBSZ.out).mono (le_lo HLG.out HGE.out))⟩
   have key:∀X:List UInt8,X=hdL→BytesAt v12.heap.size v12 (V (some ⟨h0,0,none⟩) 8 8) X:=by
    rintro X rfl
    refine .inr ⟨h0,0,8,rfl,(Array.getElem?_eq_some_iff.1 HRW.out).1,Ql _,⟨by decide,by decide⟩,fun j u hj=>?_⟩
    rw[Nat.zero_add,cell_of_row _ _ _ _ 5 (8,9) HRW.out]
    simp only[QY,List.getElem?_toArray,List.getElem?_map,hj,Option.map_some]
   have hk2:=key _ HHE.out
   simpa using hk2
  cases zcnt with
  |false =>
   go_wp2
   go_meet
   exact ⟨HF9,hid ((show ((((((((([0,97,115,109,1,0,0,0])++S_t)++S_im)++S_fT)++S_tb)++S_m)++S_g)++S_x)++S_ST)++S_e=((((((((((([0,97,115,109,1,0,0,0])++S_t)++S_im)++S_fT)++S_tb)++S_m)++S_g)++S_x)++S_ST)++S_e)++S_CN:List UInt8) by rw[HS_CN.out];simp)▸HW9.out)⟩
  |true =>
   go_wp2_with (go_at_call 118;(with_reducible refine (HCCN _ _ HF9.out HW9.out (Qk N9.out (by decide))).out.mono ?_);rintro e v10 ⟨rfl,hw',hf⟩;have HW10:=hid (show WR0 B g _ _ from .inl hw');have HF10:=hid (HF9.out.trans hf);clear y0 x0 x1 x2 x3 x4 x5 x6 x7 x8 x9 x10;have HBb10:=HBa _ HF10.out;have HXb10:=HXa _ HF10.out;have y0:=HBb10.out.at (k:=0) (v:=Qp (some ⟨g,0,none⟩)) rfl;obtain ⟨x0,x1,x2,x3,x4,x5,x6,x7,x8,x9,x10⟩:=ca11 HXb10.out;clear hw' hf)
   go_meet
   exact ⟨HF10,hid ((show ((((((((([0,97,115,109,1,0,0,0])++S_t)++S_im)++S_fT)++S_tb)++S_m)++S_g)++S_x)++S_ST)++S_e++(byI 12::szL (uI zdn))=((((((((((([0,97,115,109,1,0,0,0])++S_t)++S_im)++S_fT)++S_tb)++S_m)++S_g)++S_x)++S_ST)++S_e)++S_CN:List UInt8) by rw[HS_CN.out];simp[show byI 12=12 from rfl])▸HW10.out)⟩
 by_cases hz:zst=0
 ·subst hz
  go_wp2
  go_meet
  exact ⟨HF7,hid ((show ((((((([0,97,115,109,1,0,0,0])++S_t)++S_im)++S_fT)++S_tb)++S_m)++S_g)++S_x=((((((((([0,97,115,109,1,0,0,0])++S_t)++S_im)++S_fT)++S_tb)++S_m)++S_g)++S_x)++S_ST:List UInt8) by rw[HS_ST.out];simp[starL])▸HW7.out)⟩
 have d0:(zst !=0)=true:=by simpa[bne]using hz
 have d1:(zst==0)=false:=by simpa using hz
 have dz:=hid hz
 clear hz
 go_wp2_with (go_at_call 118;(with_reducible refine (HCST dz.out _ _ HF7.out HW7.out (Qk N7.out (by decide))).out.mono ?_);rintro e v8 ⟨rfl,hw',hf⟩;have HW8:=hid (show WR0 B g _ _ from .inl hw');have HF8:=hid (HF7.out.trans hf);clear y0 x0 x1 x2 x3 x4 x5 x6 x7 x8 x9 x10;have HBb8:=HBa _ HF8.out;have HXb8:=HXa _ HF8.out;have y0:=HBb8.out.at (k:=0) (v:=Qp (some ⟨g,0,none⟩)) rfl;obtain ⟨x0,x1,x2,x3,x4,x5,x6,x7,x8,x9,x10⟩:=ca11 HXb8.out;clear hw' hf)
 go_meet
 exact ⟨HF8,hid ((show ((((((([0,97,115,109,1,0,0,0])++S_t)++S_im)++S_fT)++S_tb)++S_m)++S_g)++S_x++(byI 8::szL (uI (zst-1)))=((((((((([0,97,115,109,1,0,0,0])++S_t)++S_im)++S_fT)++S_tb)++S_m)++S_g)++S_x)++S_ST:List UInt8) by rw[HS_ST.out];simp[starL,dz.out,show byI 8=8 from rfl])▸HW8.out)⟩
theorem wrap_b8 (r:Int):IntKind.u8.wrap r=r%256:=by
 simp[IntKind.wrap,IntKind.signed,IntKind.bits]
theorem Rlim_true (mn mx:Int) (w:World):Calls QP 205 #[.agg #[I J mn,I J mx,G true]] w (BO w (limL mn mx true)):=by
 have HX0:=hid (CA.new w #[I J mn,I J mx,G true] 70)
 have HBX:=hid ((QB w.heap.size w).alloc (Ql _) (Qc #[I J mn,I J mx,G true] 70))
 have HRX:=hid ((RF.refl w.heap.size w).alloc (Qc #[I J mn,I J mx,G true] 70))
 have y0:=HX0.out.at (k:=0) (v:=I J mn) rfl
 have y1:=HX0.out.at (k:=1) (v:=I J mx) rfl
 have y2:=HX0.out.at (k:=2) (v:=G true) rfl
 have HSZ:Hid (w.heap.size≤w.heap.size):=Ql _
 have q1:=uI_len mn
 have q2:=uI_len mx
 have HN1:=hid (show ([1]:List UInt8).length+(uI mn).length≤140737488355000 by simp only[QC,QN];omega)
 have HN2:=hid (show ([1]++uI mn).length+(uI mx).length≤140737488355000 by simp only[QA,QC,QN];omega)
 have HS0:Hid (RF w.heap.size w (w.alloc (Qc #[I J mn,I J mx,G true] 70))∧CA w.heap.size #[I J mn,I J mx,G true] 70 (w.alloc (Qc #[I J mn,I J mx,G true] 70))):=⟨HRX.out,HX0.out⟩
 clear q1 q2
 go_enter Tryz.func205,Tryz.ntmps205
 go_upto_region 2 with fail
 have hS:RF w.heap.size w (w.alloc (Qc #[I J mn,I J mx,G true] 70)).drew∧CA w.heap.size #[I J mn,I J mx,G true] 70 (w.alloc (Qc #[I J mn,I J mx,G true] 70)).drew:=⟨HS0.out.1.drew,HS0.out.2⟩
 clear HS0 HX0 HBX HRX y0 y1 y2
 refine wp_region_held_drew (S:=fun W=>RF w.heap.size w W∧CA w.heap.size #[I J mn,I J mx,G true] 70 W) (by kernel_rfl) hS (fun _=>?_)
 generalize (w.alloc (Qc #[I J mn,I J mx,G true] 70)).drew=W at *
 refine zt 1 (Qp (some ⟨w.heap.size,0,none⟩)) rfl ?_ ?_
 ·(intro W hSw;have x0:=hSw.2.at (k:=0) (v:=I J mn) rfl;have x1:=hSw.2.at (k:=1) (v:=I J mx) rfl;have x2:=hSw.2.at (k:=2) (v:=G true) rfl;go_simp;try (exact wrap_b8 _);try (with_reducible rfl))
 try simp only[Qu,sl2,sl0,sl1]
 refine zt 2 (I J mn) rfl ?_ ?_
 ·(intro W hSw;have x0:=hSw.2.at (k:=0) (v:=I J mn) rfl;have x1:=hSw.2.at (k:=1) (v:=I J mx) rfl;have x2:=hSw.2.at (k:=2) (v:=G true) rfl;go_simp;try (exact wrap_b8 _);try (with_reducible rfl))
 try simp only[Qu,sl2,sl0,sl1]
 refine zt 5 (Qp (some ⟨w.heap.size,1,none⟩)) rfl ?_ ?_
 ·(intro W hSw;have x0:=hSw.2.at (k:=0) (v:=I J mn) rfl;have x1:=hSw.2.at (k:=1) (v:=I J mx) rfl;have x2:=hSw.2.at (k:=2) (v:=G true) rfl;go_simp;try (exact wrap_b8 _);try (with_reducible rfl))
 try simp only[Qu,sl2,sl0,sl1]
 refine zt 6 (I J mx) rfl ?_ ?_
 ·(intro W hSw;have x0:=hSw.2.at (k:=0) (v:=I J mn) rfl;have x1:=hSw.2.at (k:=1) (v:=I J mx) rfl;have x2:=hSw.2.at (k:=2) (v:=G true) rfl;go_simp;try (exact wrap_b8 _);try (with_reducible rfl))
 try simp only[Qu,sl2,sl0,sl1]
 refine zm [0,3] ?_
 refine zc rfl (fun K hK=>?_) ?_
 ·go_simp
  have HOL:=hid (own_less (own_litc W 1 1 rfl) (show w.heap.size≤W.heap.size from Qk HSZ.out hS.1.size))
  (try replace HOA:=hid (own_kept HOA.out ((QB W.heap.size W).alloc (Ql _) (Qc #[.int .u8 1] 5))))
  (try replace HOM:=hid (own_kept HOM.out ((QB W.heap.size W).alloc (Ql _) (Qc #[.int .u8 1] 5))))
  (try replace HOC:=hid (own_kept HOC.out ((QB W.heap.size W).alloc (Ql _) (Qc #[.int .u8 1] 5))))
  (try replace HOZ:=hid (own_kept HOZ.out ((QB W.heap.size W).alloc (Ql _) (Qc #[.int .u8 1] 5))))
  replace hS:=And.intro (hS.1.alloc (Qc #[.int .u8 1] 5)) (hS.2.alloc (Qc #[.int .u8 1] 5))
  generalize W.alloc (Qc #[.int .u8 1] 5)=W1 at *
  generalize W.heap.size=nL at *
  refine hK.out _ _ hS (fun _=>?_)
  clear hK K
  try simp only[Qu,sl2,sl0,sl1]
  refine zr 3 rfl (fun K hK=>?_)
  go_simp
  go_at_call 133
  (with_reducible refine (RU_says mn W1).mono ?_)
  rintro e W2 ⟨v,rfl,ho,hb⟩
  obtain ⟨pA,mA,cA,rfl⟩:=own_slice ho
  have HOA:=hid (own_less ho (Qk HSZ.out hS.1.size))
  (try replace HOL:=hid (own_kept HOL.out hb))
  (try replace HOM:=hid (own_kept HOM.out hb))
  (try replace HOC:=hid (own_kept HOC.out hb))
  (try replace HOZ:=hid (own_kept HOZ.out hb))
  replace hS:=And.intro (hS.1.trans (RF.of hb)) (hS.2.below hb hS.2.lt)
  clear ho hb
  refine hK.out _ _ hS (fun _=>?_)
  clear hK K
  try simp only[Qu,sl2,sl0,sl1]
  refine zr 4 rfl (fun K hK=>?_)
  refine append_rowS rfl (.tmp 5) (.tmp 8) rfl w.heap.size _ _ _ _ _ w HOL.out HOA.out HN1.out (Ql _) hS.1 rfl rfl ?_
  intro pM mM cM W3 ho3 hr
  replace hS:=And.intro (hS.1.trans hr) (hS.2.rf hr (by decide))
  have HOM:=hid ho3
  clear ho3 hr HOL HOA
  refine hK.out _ _ hS (fun _=>?_)
  clear hK K
  try simp only[Qu,sl2,sl0,sl1]
  refine zr 7 rfl (fun K hK=>?_)
  go_simp
  go_at_call 133
  (with_reducible refine (RU_says mx W3).mono ?_)
  rintro e W4 ⟨v,rfl,ho,hb⟩
  obtain ⟨pC,mC,cC,rfl⟩:=own_slice ho
  have HOC:=hid (own_less ho (Qk HSZ.out hS.1.size))
  (try replace HOL:=hid (own_kept HOL.out hb))
  (try replace HOA:=hid (own_kept HOA.out hb))
  (try replace HOM:=hid (own_kept HOM.out hb))
  (try replace HOZ:=hid (own_kept HOZ.out hb))
  replace hS:=And.intro (hS.1.trans (RF.of hb)) (hS.2.below hb hS.2.lt)
  clear ho hb
  refine hK.out _ _ hS (fun _=>?_)
  clear hK K
  try simp only[Qu,sl2,sl0,sl1]
  refine zr 8 rfl (fun K hK=>?_)
  refine append_rowS rfl (.tmp 9) (.tmp 12) rfl w.heap.size _ _ _ _ _ w HOM.out HOC.out HN2.out (Ql _) hS.1 rfl rfl ?_
  intro pZ mZ cZ W5 ho3 hr
  replace hS:=And.intro (hS.1.trans hr) (hS.2.rf hr (by decide))
  have HOZ:=hid ho3
  clear ho3 hr HOM HOC
  refine hK.out _ _ hS (fun _=>?_)
  clear hK K
  try simp only[Qu,sl2,sl0,sl1]
  refine zt 9 (V pZ mZ cZ) rfl ?_ ?_
  ·(intro W hSw;have x0:=hSw.2.at (k:=0) (v:=I J mn) rfl;have x1:=hSw.2.at (k:=1) (v:=I J mx) rfl;have x2:=hSw.2.at (k:=2) (v:=G true) rfl;go_simp;try (exact wrap_b8 _);try (with_reducible rfl))
  try simp only[Qu,sl2,sl0,sl1]
  refine wpAnyH_done (by kernel_rfl) ?_ _
  have HF:=hid hS.1
  clear hS
  go_wp2
  go_ret
  exact ⟨_,rfl,HOZ.out,HF.out.below (Ql _)⟩
 refine zc rfl (fun K hK=>?_) ?_
 ·go_simp
  go_at_call 133
  (with_reducible refine (RU_says mn W).mono ?_)
  rintro e W1 ⟨v,rfl,ho,hb⟩
  obtain ⟨pA,mA,cA,rfl⟩:=own_slice ho
  have HOA:=hid (own_less ho (Qk HSZ.out hS.1.size))
  (try replace HOL:=hid (own_kept HOL.out hb))
  (try replace HOM:=hid (own_kept HOM.out hb))
  (try replace HOC:=hid (own_kept HOC.out hb))
  (try replace HOZ:=hid (own_kept HOZ.out hb))
  replace hS:=And.intro (hS.1.trans (RF.of hb)) (hS.2.below hb hS.2.lt)
  clear ho hb
  refine hK.out _ _ hS (fun _=>?_)
  clear hK K
  try simp only[Qu,sl2,sl0,sl1]
  refine zr 0 rfl (fun K hK=>?_)
  go_simp
  have HOL:=hid (own_less (own_litc W1 1 1 rfl) (show w.heap.size≤W1.heap.size from Qk HSZ.out hS.1.size))
  (try replace HOA:=hid (own_kept HOA.out ((QB W1.heap.size W1).alloc (Ql _) (Qc #[.int .u8 1] 5))))
  (try replace HOM:=hid (own_kept HOM.out ((QB W1.heap.size W1).alloc (Ql _) (Qc #[.int .u8 1] 5))))
  (try replace HOC:=hid (own_kept HOC.out ((QB W1.heap.size W1).alloc (Ql _) (Qc #[.int .u8 1] 5))))
  (try replace HOZ:=hid (own_kept HOZ.out ((QB W1.heap.size W1).alloc (Ql _) (Qc #[.int .u8 1] 5))))
  replace hS:=And.intro (hS.1.alloc (Qc #[.int .u8 1] 5)) (hS.2.alloc (Qc #[.int .u8 1] 5))
  generalize W1.alloc (Qc #[.int .u8 1] 5)=W2 at *
  generalize W1.heap.size=nL at *
  refine hK.out _ _ hS (fun _=>?_)
  clear hK K
  try simp only[Qu,sl2,sl0,sl1]
  refine zr 4 rfl (fun K hK=>?_)
  refine append_rowS rfl (.tmp 5) (.tmp 8) rfl w.heap.size _ _ _ _ _ w HOL.out HOA.out HN1.out (Ql _) hS.1 rfl rfl ?_
  intro pM mM cM W3 ho3 hr
  replace hS:=And.intro (hS.1.trans hr) (hS.2.rf hr (by decide))
  have HOM:=hid ho3
  clear ho3 hr HOL HOA
  refine hK.out _ _ hS (fun _=>?_)
  clear hK K
  try simp only[Qu,sl2,sl0,sl1]
  refine zr 7 rfl (fun K hK=>?_)
  go_simp
  go_at_call 133
  (with_reducible refine (RU_says mx W3).mono ?_)
  rintro e W4 ⟨v,rfl,ho,hb⟩
  obtain ⟨pC,mC,cC,rfl⟩:=own_slice ho
  have HOC:=hid (own_less ho (Qk HSZ.out hS.1.size))
  (try replace HOL:=hid (own_kept HOL.out hb))
  (try replace HOA:=hid (own_kept HOA.out hb))
  (try replace HOM:=hid (own_kept HOM.out hb))
  (try replace HOZ:=hid (own_kept HOZ.out hb))
  replace hS:=And.intro (hS.1.trans (RF.of hb)) (hS.2.below hb hS.2.lt)
  clear ho hb
  refine hK.out _ _ hS (fun _=>?_)
  clear hK K
  try simp only[Qu,sl2,sl0,sl1]
  refine zr 8 rfl (fun K hK=>?_)
  refine append_rowS rfl (.tmp 9) (.tmp 12) rfl w.heap.size _ _ _ _ _ w HOM.out HOC.out HN2.out (Ql _) hS.1 rfl rfl ?_
  intro pZ mZ cZ W5 ho3 hr
  replace hS:=And.intro (hS.1.trans hr) (hS.2.rf hr (by decide))
  have HOZ:=hid ho3
  clear ho3 hr HOM HOC
  refine hK.out _ _ hS (fun _=>?_)
  clear hK K
  try simp only[Qu,sl2,sl0,sl1]
  refine zt 9 (V pZ mZ cZ) rfl ?_ ?_
  ·(intro W hSw;have x0:=hSw.2.at (k:=0) (v:=I J mn) rfl;have x1:=hSw.2.at (k:=1) (v:=I J mx) rfl;have x2:=hSw.2.at (k:=2) (v:=G true) rfl;go_simp;try (exact wrap_b8 _);try (with_reducible rfl))
  try simp only[Qu,sl2,sl0,sl1]
  refine wpAnyH_done (by kernel_rfl) ?_ _
  have HF:=hid hS.1
  clear hS
  go_wp2
  go_ret
  exact ⟨_,rfl,HOZ.out,HF.out.below (Ql _)⟩
 exact zn
theorem Rlim_false (mn mx:Int) (w:World):Calls QP 205 #[.agg #[I J mn,I J mx,G false]] w (BO w (limL mn mx false)):=by
 have HX0:=hid (CA.new w #[I J mn,I J mx,G false] 70)
 have HBX:=hid ((QB w.heap.size w).alloc (Ql _) (Qc #[I J mn,I J mx,G false] 70))
 have HRX:=hid ((RF.refl w.heap.size w).alloc (Qc #[I J mn,I J mx,G false] 70))
 have y0:=HX0.out.at (k:=0) (v:=I J mn) rfl
 have y1:=HX0.out.at (k:=1) (v:=I J mx) rfl
 have y2:=HX0.out.at (k:=2) (v:=G false) rfl
 have HSZ:Hid (w.heap.size≤w.heap.size):=Ql _
 have q1:=uI_len mn
 have q2:=uI_len mx
 have HN1:=hid (show ([0]:List UInt8).length+(uI mn).length≤140737488355000 by simp only[QC,QN];omega)
 have ht:=own_litc (w.alloc (Qc #[I J mn,I J mx,G false] 70)) 0 0 rfl
 rw[size_al]at ht
 have HT:=hid (own_less ht (Nat.le_succ _))
 have HBY:=hid (HBX.out.alloc (by rw[size_al];omega) (Qc #[.int .u8 0] 5))
 clear q1 q2 ht
 go_enter Tryz.func205,Tryz.ntmps205
 go_wp2_with (first
  |(go_at_call 133;(with_reducible refine (RU_says mn _).mono ?_);rintro e w1 ⟨v,rfl,ho,hb⟩;obtain ⟨p1,m1,c1,rfl⟩:=own_slice ho;have HO1:=hid (own_less ho (Qk (Ql _) HBY.out.size));have HT1:=hid (own_kept HT.out hb);have HB1:=Qd HBY hb;clear ho hb)
  |(at_builtin;refine append_rowW rfl _ _ rfl w.heap.size _ _ _ _ _ w1 HT1.out HO1.out HN1.out HB1.out.size (RF.refl _ _) rfl rfl ?_;intro p3 m3 c3 w3 ho3 hf3;have HO3:=hid ho3;have HF3:=hid (hf3.below HB1.out.size);clear ho3 hf3))
 go_ret
 exact ⟨_,rfl,HO3.out,HB1.out.trans HF3.out⟩
theorem Rlim_says (mn mx:Int) (h:Bool) (w:World):Calls QP 205 #[.agg #[I J mn,I J mx,G h]] w (BO w (limL mn mx h)):=by
 cases h
 ·exact Rlim_false mn mx w
 exact Rlim_true mn mx w
theorem limR_len (mn mx:Int) (h:Bool):(limL mn mx h).length≤21:=by
 have:=uI_len mn
 have:=uI_len mx
 unfold limL
 split<;>simp only[QA,QC]<;>omega
theorem Rtab_says (r mn mx:Int) (h:Bool) (w:World):Calls QP 204 #[.agg #[I J r,I J mn,I J mx,G h]] w (BO w (tabL r mn mx h)):=by
 have HX0:=hid (CA.new w #[I J r,I J mn,I J mx,G h] 72)
 have HBX:=hid ((QB w.heap.size w).alloc (Ql _) (Qc #[I J r,I J mn,I J mx,G h] 72))
 have HRX:=hid ((RF.refl w.heap.size w).alloc (Qc #[I J r,I J mn,I J mx,G h] 72))
 have y0:=HX0.out.at (k:=0) (v:=I J r) rfl
 have y1:=HX0.out.at (k:=1) (v:=I J mn) rfl
 have y2:=HX0.out.at (k:=2) (v:=I J mx) rfl
 have y3:=HX0.out.at (k:=3) (v:=G h) rfl
 have HSZ:Hid (w.heap.size≤w.heap.size):=Ql _
 have q1:=limR_len mn mx h
 have HN1:=hid (show ([byI r]:List UInt8).length+(limL mn mx h).length≤140737488355000 by simp only[QC,QN];omega)
 have HS0:Hid (RF w.heap.size w (w.alloc (Qc #[I J r,I J mn,I J mx,G h] 72))∧CA w.heap.size #[I J r,I J mn,I J mx,G h] 72 (w.alloc (Qc #[I J r,I J mn,I J mx,G h] 72))):=⟨HRX.out,HX0.out⟩
 clear q1
 go_enter Tryz.func204,Tryz.ntmps204
 go_upto_region 1 with fail
 have hS:RF w.heap.size w (w.alloc (Qc #[I J r,I J mn,I J mx,G h] 72)).drew∧CA w.heap.size #[I J r,I J mn,I J mx,G h] 72 (w.alloc (Qc #[I J r,I J mn,I J mx,G h] 72)).drew:=⟨HS0.out.1.drew,HS0.out.2⟩
 clear HS0 HX0 HBX HRX y0 y1 y2 y3
 refine wp_region_held_drew (S:=fun W=>RF w.heap.size w W∧CA w.heap.size #[I J r,I J mn,I J mx,G h] 72 W) (by kernel_rfl) hS (fun _=>?_)
 generalize (w.alloc (Qc #[I J r,I J mn,I J mx,G h] 72)).drew=W at *
 refine zt 0 (Qp (some ⟨w.heap.size,0,none⟩)) rfl ?_ ?_
 ·(intro W hSw;have x0:=hSw.2.at (k:=0) (v:=I J r) rfl;have x1:=hSw.2.at (k:=1) (v:=I J mn) rfl;have x2:=hSw.2.at (k:=2) (v:=I J mx) rfl;have x3:=hSw.2.at (k:=3) (v:=G h) rfl;go_simp;try (exact wrap_b8 _);try (with_reducible rfl))
 try simp only[Qu,sl2,sl0,sl1]
 refine zt 1 (I J r) rfl ?_ ?_
 ·(intro W hSw;have x0:=hSw.2.at (k:=0) (v:=I J r) rfl;have x1:=hSw.2.at (k:=1) (v:=I J mn) rfl;have x2:=hSw.2.at (k:=2) (v:=I J mx) rfl;have x3:=hSw.2.at (k:=3) (v:=G h) rfl;go_simp;try (exact wrap_b8 _);try (with_reducible rfl))
 try simp only[Qu,sl2,sl0,sl1]
 refine zt 2 (.int .u8 (r%256)) rfl ?_ ?_
 ·(intro W hSw;have x0:=hSw.2.at (k:=0) (v:=I J r) rfl;have x1:=hSw.2.at (k:=1) (v:=I J mn) rfl;have x2:=hSw.2.at (k:=2) (v:=I J mx) rfl;have x3:=hSw.2.at (k:=3) (v:=G h) rfl;go_simp;try (exact wrap_b8 _);try (with_reducible rfl))
 try simp only[Qu,sl2,sl0,sl1]
 refine zt 4 (Qp (some ⟨w.heap.size,1,none⟩)) rfl ?_ ?_
 ·(intro W hSw;have x0:=hSw.2.at (k:=0) (v:=I J r) rfl;have x1:=hSw.2.at (k:=1) (v:=I J mn) rfl;have x2:=hSw.2.at (k:=2) (v:=I J mx) rfl;have x3:=hSw.2.at (k:=3) (v:=G h) rfl;go_simp;try (exact wrap_b8 _);try (with_reducible rfl))
 try simp only[Qu,sl2,sl0,sl1]
 refine zt 5 (.agg #[I J mn,I J mx,G h]) rfl ?_ ?_
 ·(intro W hSw;have x0:=hSw.2.at (k:=0) (v:=I J r) rfl;have x1:=hSw.2.at (k:=1) (v:=I J mn) rfl;have x2:=hSw.2.at (k:=2) (v:=I J mx) rfl;have x3:=hSw.2.at (k:=3) (v:=G h) rfl;go_simp;try (exact wrap_b8 _);try (with_reducible rfl))
 try simp only[Qu,sl2,sl0,sl1]
 refine zm [3,6] ?_
 refine zc rfl (fun K hK=>?_) ?_
 ·go_simp
  have HOL:=hid (own_less (own_lit1 W r) (show w.heap.size≤W.heap.size from Qk HSZ.out hS.1.size))
  (try replace HOA:=hid (own_kept HOA.out ((QB W.heap.size W).alloc (Ql _) (Qc #[.int .u8 (r%256)] 5))))
  (try replace HOZ:=hid (own_kept HOZ.out ((QB W.heap.size W).alloc (Ql _) (Qc #[.int .u8 (r%256)] 5))))
  replace hS:=And.intro (hS.1.alloc (Qc #[.int .u8 (r%256)] 5)) (hS.2.alloc (Qc #[.int .u8 (r%256)] 5))
  generalize W.alloc (Qc #[.int .u8 (r%256)] 5)=W1 at *
  generalize W.heap.size=nL at *
  refine hK.out _ _ hS (fun _=>?_)
  clear hK K
  try simp only[Qu,sl2,sl0,sl1]
  refine zr 6 rfl (fun K hK=>?_)
  go_simp
  go_at_call 205
  (with_reducible refine (Rlim_says mn mx h W1).mono ?_)
  rintro e W2 ⟨v,rfl,ho,hb⟩
  obtain ⟨pA,mA,cA,rfl⟩:=own_slice ho
  have HOA:=hid (own_less ho (Qk HSZ.out hS.1.size))
  (try replace HOL:=hid (own_kept HOL.out hb))
  (try replace HOZ:=hid (own_kept HOZ.out hb))
  replace hS:=And.intro (hS.1.trans (RF.of hb)) (hS.2.below hb hS.2.lt)
  clear ho hb
  refine hK.out _ _ hS (fun _=>?_)
  clear hK K
  try simp only[Qu,sl2,sl0,sl1]
  refine zr 7 rfl (fun K hK=>?_)
  refine append_rowS rfl (.tmp 6) (.tmp 9) rfl w.heap.size _ _ _ _ _ w HOL.out HOA.out HN1.out (Ql _) hS.1 rfl rfl ?_
  intro pZ mZ cZ W3 ho3 hr
  replace hS:=And.intro (hS.1.trans hr) (hS.2.rf hr (by decide))
  have HOZ:=hid ho3
  clear ho3 hr HOL HOA
  refine hK.out _ _ hS (fun _=>?_)
  clear hK K
  try simp only[Qu,sl2,sl0,sl1]
  refine zt 8 (V pZ mZ cZ) rfl ?_ ?_
  ·(intro W hSw;have x0:=hSw.2.at (k:=0) (v:=I J r) rfl;have x1:=hSw.2.at (k:=1) (v:=I J mn) rfl;have x2:=hSw.2.at (k:=2) (v:=I J mx) rfl;have x3:=hSw.2.at (k:=3) (v:=G h) rfl;go_simp;try (exact wrap_b8 _);try (with_reducible rfl))
  try simp only[Qu,sl2,sl0,sl1]
  refine wpAnyH_done (by kernel_rfl) ?_ _
  have HF:=hid hS.1
  clear hS
  go_wp2
  go_ret
  exact ⟨_,rfl,HOZ.out,HF.out.below (Ql _)⟩
 refine zc rfl (fun K hK=>?_) ?_
 ·go_simp
  go_at_call 205
  (with_reducible refine (Rlim_says mn mx h W).mono ?_)
  rintro e W1 ⟨v,rfl,ho,hb⟩
  obtain ⟨pA,mA,cA,rfl⟩:=own_slice ho
  have HOA:=hid (own_less ho (Qk HSZ.out hS.1.size))
  (try replace HOL:=hid (own_kept HOL.out hb))
  (try replace HOZ:=hid (own_kept HOZ.out hb))
  replace hS:=And.intro (hS.1.trans (RF.of hb)) (hS.2.below hb hS.2.lt)
  clear ho hb
  refine hK.out _ _ hS (fun _=>?_)
  clear hK K
  try simp only[Qu,sl2,sl0,sl1]
  refine zr 3 rfl (fun K hK=>?_)
  go_simp
  have HOL:=hid (own_less (own_lit1 W1 r) (show w.heap.size≤W1.heap.size from Qk HSZ.out hS.1.size))
  (try replace HOA:=hid (own_kept HOA.out ((QB W1.heap.size W1).alloc (Ql _) (Qc #[.int .u8 (r%256)] 5))))
  (try replace HOZ:=hid (own_kept HOZ.out ((QB W1.heap.size W1).alloc (Ql _) (Qc #[.int .u8 (r%256)] 5))))
  replace hS:=And.intro (hS.1.alloc (Qc #[.int .u8 (r%256)] 5)) (hS.2.alloc (Qc #[.int .u8 (r%256)] 5))
  generalize W1.alloc (Qc #[.int .u8 (r%256)] 5)=W2 at *
  generalize W1.heap.size=nL at *
  refine hK.out _ _ hS (fun _=>?_)
  clear hK K
  try simp only[Qu,sl2,sl0,sl1]
  refine zr 7 rfl (fun K hK=>?_)
  refine append_rowS rfl (.tmp 6) (.tmp 9) rfl w.heap.size _ _ _ _ _ w HOL.out HOA.out HN1.out (Ql _) hS.1 rfl rfl ?_
  intro pZ mZ cZ W3 ho3 hr
  replace hS:=And.intro (hS.1.trans hr) (hS.2.rf hr (by decide))
  have HOZ:=hid ho3
  clear ho3 hr HOL HOA
  refine hK.out _ _ hS (fun _=>?_)
  clear hK K
  try simp only[Qu,sl2,sl0,sl1]
  refine zt 8 (V pZ mZ cZ) rfl ?_ ?_
  ·(intro W hSw;have x0:=hSw.2.at (k:=0) (v:=I J r) rfl;have x1:=hSw.2.at (k:=1) (v:=I J mn) rfl;have x2:=hSw.2.at (k:=2) (v:=I J mx) rfl;have x3:=hSw.2.at (k:=3) (v:=G h) rfl;go_simp;try (exact wrap_b8 _);try (with_reducible rfl))
  try simp only[Qu,sl2,sl0,sl1]
  refine wpAnyH_done (by kernel_rfl) ?_ _
  have HF:=hid hS.1
  clear hS
  go_wp2
  go_ret
  exact ⟨_,rfl,HOZ.out,HF.out.below (Ql _)⟩
 exact zn
theorem own_lit2 (w:World) (n q:Int) (b:UInt8) (hq:(b.toNat:Int)=q):(w.alloc (Qc #[.int .u8 (n%256),.int .u8 q] 5)).ownsRow w.heap.size 5 1 (V (some ⟨w.heap.size,0,none⟩) 2 2) [byI n,b].length (QY [byI n,b]):=by
 have:=World.ownsRow_lit (base:=w.heap.size) (e:=5) (size:=1) w #[.int .u8 (n%256),.int .u8 q] 2 (Ql _) (by decide) rfl
 have e:QY [byI n,b]=[.int .u8 (n%256),.int .u8 q]:=by simp[QY,byI_nat,hq]
 rw[e]
 exact this
theorem Rglo_says (t:Int) (m:Bool) (w:World):Calls QP 206 #[.agg #[I J t,G m]] w (BO w (gloL t m)):=by
 have HX0:=hid (CA.new w #[I J t,G m] 44)
 have HBX:=hid ((QB w.heap.size w).alloc (Ql _) (Qc #[I J t,G m] 44))
 have HRX:=hid ((RF.refl w.heap.size w).alloc (Qc #[I J t,G m] 44))
 have y0:=HX0.out.at (k:=0) (v:=I J t) rfl
 have y1:=HX0.out.at (k:=1) (v:=G m) rfl
 cases m
 ·go_enter Tryz.func206,Tryz.ntmps206
  go_wp2
  go_ret
  have ho:=own_lit2 (w.alloc (Qc #[I J t,G false] 44)) t 0 0 rfl
  rw[size_al]at ho
  exact ⟨_,rfl,own_less ho (Nat.le_succ _),HBX.out.alloc HBX.out.size _⟩
 go_enter Tryz.func206,Tryz.ntmps206
 go_wp2
 go_ret
 have ho:=own_lit2 (w.alloc (Qc #[I J t,G true] 44)) t 1 1 rfl
 rw[size_al]at ho
 exact ⟨_,rfl,own_less ho (Nat.le_succ _),HBX.out.alloc HBX.out.size _⟩
theorem own_sliceN {w:World} {base:Nat} {v:Value} {n:Nat} {xs:List Value} (h:w.ownsRow base 5 1 v n xs):∃p c,v=V p n c:=by
 rcases h.2 with ⟨rfl,rfl⟩|⟨g,cap,cur,rfl,_⟩
 ·exact ⟨none,0,rfl⟩
 exact ⟨_,_,rfl⟩
theorem own_litI (w:World) (q:Int) (h0:0≤q) (h1:q<256):(w.alloc (Qc #[.int .u8 q] 5)).ownsRow w.heap.size 5 1 (V (some ⟨w.heap.size,0,none⟩) 1 1) [byI q].length (QY [byI q]) :=
 own_litc w q (byI q) (by rw[byI_nat];omega)
theorem Rsec_none (id:Int) (n:Nat) (hn:n=0) (v:Value) (ys:List UInt8) (B:Nat) (w:World) (ho:w.ownsRow B 5 1 v ys.length (QY ys)):Calls QP 132 #[.int .u8 id,I J n,v] w (BO w (secL id n ys)):=by
 subst hn
 obtain ⟨p,m,c,rfl⟩:=own_slice ho
 have HE:=hid (show secL id 0 ys=[] from if_pos rfl)
 clear ho
 go_enter Tryz.func132,Tryz.ntmps132
 go_wp2
 go_ret
 refine ⟨_,rfl,?_,QB _ _⟩
 rw[HE.out]
 exact own_nil _ _
theorem Rsec_some (id:Int) (h0:0≤id) (h1:id<256) (n:Nat) (hn0:n≠0) (v:Value) (ys:List UInt8) (B:Nat) (w:World) (ho:w.ownsRow B 5 1 v ys.length (QY ys)) (hn:ys.length+100≤140737488355000):Calls QP 132 #[.int .u8 id,I J n,v] w (BO w (secL id n ys)):=by
 obtain ⟨p,m,c,rfl⟩:=own_slice ho
 have HC:=hid (listed_says n (V p m c) ys B w ho (by omega))
 have q0:=uI_len n
 obtain ⟨Y,hY⟩:∃Y,Y=uI n++ys:=⟨_,rfl⟩
 have hYl:Y.length≤140737488354910:=by rw[hY,QA];omega
 have HE:=hid (show secL id n ys=[byI id]++uI Y.length++Y by rw[hY];unfold secL szL;rw[if_neg hn0];simp)
 rw[←hY]at HC
 have q1:=uI_len Y.length
 have HN1:=hid (show ([byI id]:List UInt8).length+(uI Y.length).length≤140737488355000 by simp only[QC,QN];omega)
 have HN2:=hid (show ([byI id]++uI Y.length).length+Y.length≤140737488355000 by simp only[QA,QC,QN];omega)
 have HL:=fun W=>hid (own_litI W id h0 h1)
 have hz:((n:Int)==0)=false:=by simpa using hn0
 generalize (n:Int)=N at *
 clear ho hY hYl q0 q1 h0 h1 hn hn0
 go_enter Tryz.func132,Tryz.ntmps132
 go_wp2_with (first
  |(go_at_call 135;(with_reducible refine HC.out.mono ?_);rintro e w1 ⟨v,rfl,ho,hb⟩;obtain ⟨p1,c1,rfl⟩:=own_sliceN ho;have HY:=hid ho;have HT1:=(HL w1);have HW:=hid hb;have HB1:=hid ((RF.refl w1.heap.size w1).alloc (Qc #[.int .u8 id] 5));clear ho hb)
  |(go_at_call 133;(with_reducible refine (RU_says Y.length _).mono ?_);rintro e w2 ⟨v,rfl,ho,hb⟩;obtain ⟨p2,m2,c2,rfl⟩:=own_slice ho;have HO2:=hid ho;have HT2:=hid (own_kept HT1.out hb);have HB2:=hid (HB1.out.trans (RF.of hb));clear ho hb)
  |(at_builtin;refine append_rowW rfl _ _ rfl w1.heap.size _ _ _ _ _ w1 HT2.out HO2.out HN1.out (Ql _) HB2.out rfl rfl ?_;intro p3 m3 c3 w3 ho3 hf3;have HT3:=hid ho3;have HY3:=hid (own_kept HY.out (hf3.below (Ql _)));have HF3:=hid hf3;clear ho3 hf3 HT2 HO2)
  |(at_builtin;refine append_rowW rfl _ _ rfl w1.heap.size _ _ _ _ _ w1 HT3.out HY3.out HN2.out (Ql _) HF3.out rfl rfl ?_;intro p4 m4 c4 w4 ho3 hf3;have HT4:=hid ho3;have HF4:=hid hf3;clear ho3 hf3))
 go_ret
 refine ⟨_,rfl,?_,HW.out.trans ((HF4.out.below (Ql _)).mono HW.out.size)⟩
 rw[HE.out]
 exact own_less HT4.out HW.out.size
theorem Rsec_says (id:Int) (h0:0≤id) (h1:id<256) (n:Nat) (v:Value) (ys:List UInt8) (B:Nat) (w:World) (ho:w.ownsRow B 5 1 v ys.length (QY ys)) (hn:ys.length+100≤140737488355000):Calls QP 132 #[.int .u8 id,I J n,v] w (BO w (secL id n ys)):=by
 by_cases hz:n=0
 ·exact Rsec_none id n hz v ys B w ho
 exact Rsec_some id h0 h1 n hz v ys B w ho hn
theorem Rname_says (s:ByteArray) (hs:s.size≤100000000) (w:World):Calls QP 203 #[Qs s] w (BO w (strL s)):=by
 have:=refName_any s w (by omega)
 rw[←uI_nat s.size (by omega)]at this
 exact this
end Go.Proofs.YtjgeedgphcjhoaaGreat
