/-
  WEl1, WEl2, WList2, WEl3: merged, what the law does not reach left out (each text says what it holds where it lies in wip). No condition.
-/
import Derived.Test.YtjgeedgphcjhoaaGreatS16
import Derived.Deep.DeepCutAuto
import Derived.Test.YtjgeedgphcjhoaaGreatS15
import Derived.Deep.CutBlock
import Derived.Test.YtjgeedgphcjhoaaGreatS01
set_option linter.unusedSimpArgs false
set_option linter.unusedVariables false
set_option maxRecDepth 100000
set_option maxHeartbeats 64000000
namespace Go.Proofs.YtjgeedgphcjhoaaGreat
open Go.RowKit
open Value renaming int → I,slice → V,bool → G,string → Qs,pointer → Qp
open IntKind renaming i64 → J
open Ending renaming returned → Qr
open Obj renaming cells → Qc
open _root_.Go.Proofs.Tryz renaming prog → QP
open Nat renaming le_refl → Ql,le_of_lt → Qo,le_trans → Qk,zero_le → Qz
open List renaming length_append → QA,length_cons → QC,length_nil → QN,length_map → QM,append_assoc → QS,range → QR
open Below renaming refl → QB
open World renaming cell?_of_block → QW
open Act renaming put → Qu
open Lib renaming byteCells → QY
theorem mfX_len (l:List Int) (f:Fo) (hl:l.length≤60000) (hok:okE f) (hsz:f.siz≤61200000):(locL l++codL f).length≤70000000:=by
 have h1:=runs_le l
 have h2:=rbL_len (runsL l)
 have h3:=uI_len (runsL l).length
 have h4:=enc_siz f hok
 unfold locL codL
 simp only[QA,QC,QN]
 omega
theorem func_says (B g L:Nat) (bs:List UInt8) (ty:Int) (l:List Int) (f:Fo) (pl pf:Option Addr) (cl cf:Nat) (w:World) (hL:L≤lo B g) (hl:l.length≤60000) (hLI:LI L w (V pl l.length cl) l)
  (hct:f.cnt<9223372036854775806) (hok:okE f) (hsz:f.siz≤61200000) (hs:SA L w (V pf f.len cf) f) (hw:WR B g bs w) (hn:bs.length≤100000000000000) :
  Calls QP 125 #[Qp (some ⟨g,0,none⟩),.agg #[I J ty,V pl l.length cl,V pf f.len cf]] w fun e w'=>e=Qr (.tuple #[])∧WR B g (bs++szL (locL l++codL f)) w'∧FR B g w w':=by
 have hB:=hw.1
 have hLw:L≤w.heap.size:=Qk hL (Qk (lo_B B g) hB)
 have hgl:=hw.lt
 have hb1:=CA.new w #[Qp (some ⟨g,0,none⟩)] 135
 have hb1':=hb1.alloc (Qc #[I J ty,V pl l.length cl,V pf f.len cf] 42)
 have hb2:=CA.new (w.alloc (Qc #[Qp (some ⟨g,0,none⟩)] 135)) #[I J ty,V pl l.length cl,V pf f.len cf] 42
 rw[size_al]at hb2
 have hbel:Below w.heap.size w ((w.alloc (Qc #[Qp (some ⟨g,0,none⟩)] 135)).alloc (Qc #[I J ty,V pl l.length cl,V pf f.len cf] 42)):=((QB _ _).alloc (Ql _) _).alloc (by rw[size_al];omega) _
 have hF0:=((FR.refl B g w).alloc (Qc #[Qp (some ⟨g,0,none⟩)] 135)).alloc (Qc #[I J ty,V pl l.length cl,V pf f.len cf] 42)
 have HF0:=hid hF0
 have HB1:=hid hb1'
 have HC:=hid (sized_wm B g 194 (fun _ _=>rfl) #[Qp (some ⟨w.heap.size,0,none⟩),Qp (some ⟨w.heap.size+1,0,none⟩)] (locL l++codL f) ((w.alloc (Qc #[Qp (some ⟨g,0,none⟩)] 135)).alloc (Qc #[I J ty,V pl l.length cl,V pf f.len cf] 42)) (Qk (mfX_len l f hl hok hsz) (by decide))
  (fun B' W hBB hF hW=>func_in B' g w.heap.size (w.heap.size+1) L ty l f pl pf cl cf W (le_lo (Qk hL (Qk (lo_B B g) hBB)) (Qk hL (lo_g B g))) hl (hLI.below (((hF0.trans hF).belowL hB).mono hL)) hct hok hsz (SA.below hs (((hF0.trans hF).belowL hB).mono hL)) (hb1'.fr hF (by decide) (by omega)) (hb2.fr hF (by decide) (by omega)) (by omega) (by omega) hW) bs ((hw.alloc _).alloc _) hn)
 have hmf:∀(fn:Fn) (first cap:Array Value) (w:World),(Instr.makeFunc fn first cap).run QP w=.ok (.func fn first cap) w:=fun _ _ _ _=>rfl
 clear hLI hs hw hct hok hsz hB hLw hL hl hb1 hb1' hb2 hbel hF0 hgl hn
 generalize f.len=m at *
 generalize l.length=n at *
 generalize szL (locL l++codL f)=X at *
 go_enter Tryz.func125,Tryz.ntmps125
 go_upto_region 1 with fail
 generalize (w.alloc (Qc #[Qp (some ⟨g,0,none⟩)] 135)).alloc (Qc #[I J ty,V pl n cl,V pf m cf] 42)=w0 at *
 generalize w.heap.size=gx at *
 have y0:=HB1.out.at (k:=0) (v:=Qp (some ⟨g,0,none⟩)) rfl
 go_wp2_with (go_at_call 187;(with_reducible refine HC.out.mono ?_);rintro e w1 ⟨rfl,hw',hf⟩;have HW1:=hid hw';have HF1:=hid (HF0.out.trans hf);clear hw' hf)
 (first|go_end0|refine bodyPost_ret (results_none rfl _ _ _) rfl ?_)
 exact ⟨rfl,HW1.out,HF1.out⟩
theorem mc_Fun (B g b L:Nat) (bs:List UInt8) (ty:Int) (l:List Int) (f:Fo) (pl pf:Option Addr) (cl cf:Nat) (w:World) (hL:L≤lo B g) (hl:l.length≤60000) (hLI:LI L w (V pl l.length cl) l)
  (hct:f.cnt<9223372036854775806) (hok:okE f) (hsz:f.siz≤61200000) (hs:SA L w (V pf f.len cf) f) (hb:CA b #[Qp (some ⟨g,0,none⟩)] 135 w) (hw:WR B g bs w) (hn:bs.length≤3000000000000) :
  Calls QP 124 #[.agg #[I J ty,V pl l.length cl,V pf f.len cf],Qp (some ⟨b,0,none⟩)] w fun e w'=>e=Qr (.tuple #[])∧WR B g (bs++szL (locL l++codL f)) w'∧FR B g w w':=by
 have HX0:=hid (CA.new w #[I J ty,V pl l.length cl,V pf f.len cf] 42)
 have HB0:=hid (hb.alloc (Qc #[I J ty,V pl l.length cl,V pf f.len cf] 42))
 have HF0:=hid ((FR.refl B g w).alloc (Qc #[I J ty,V pl l.length cl,V pf f.len cf] 42))
 have hba:=((QB w.heap.size w).alloc (Ql _) (Qc #[I J ty,V pl l.length cl,V pf f.len cf] 42)).mono (show L≤w.heap.size from Qk hL (Qk (lo_B B g) hw.1))
 have HC:=hid (func_says B g L bs ty l f pl pf cl cf (w.alloc (Qc #[I J ty,V pl l.length cl,V pf f.len cf] 42)) hL hl (hLI.below hba) hct hok hsz (SA.below hs hba) (hw.alloc _) (by omega))
 clear hb hw hn hba hLI hs hct hok hsz hL hl
 generalize f.len=m at *
 generalize l.length=n at *
 generalize szL (locL l++codL f)=X at *
 go_enter Tryz.func124,Tryz.ntmps124
 go_upto_region 1 with fail
 generalize w.alloc (Qc #[I J ty,V pl n cl,V pf m cf] 42)=w0 at *
 generalize w.heap.size=gx at *
 have y0:=HB0.out.at (k:=0) (v:=Qp (some ⟨g,0,none⟩)) rfl
 have x0:=HX0.out.at (k:=0) (v:=I J ty) rfl
 have x1:=HX0.out.at (k:=1) (v:=V pl n cl) rfl
 have x2:=HX0.out.at (k:=2) (v:=V pf m cf) rfl
 go_wp2_with (go_at_call 125;(with_reducible refine HC.out.mono ?_);rintro e w1 ⟨rfl,hw',hf⟩;have HW1:=hid hw';have HF1:=hid (HF0.out.trans hf);clear hw' hf)
 (first|go_end0|refine bodyPost_ret (results_none rfl _ _ _) rfl ?_)
 exact ⟨rfl,HW1.out,HF1.out⟩
theorem mc_code (B g b:Nat) (bs:List UInt8) (f:Fo) (pf:Option Addr) (cf:Nat) (w:World) (hct:f.cnt<9223372036854775806) (hok:okE f) (hsz:f.siz≤61200000) (hs:SA (lo B g) w (V pf f.len cf) f) (hb:CA b #[Qp (some ⟨g,0,none⟩)] 135 w) (hw:WR B g bs w) (hn:bs.length≤4000000000000) :
  Calls QP 192 #[V pf f.len cf,Qp (some ⟨b,0,none⟩)] w fun e w'=>e=Qr (.tuple #[])∧WR B g (bs++codL f) w'∧FR B g w w':=by
 have HC:=hid (code_says B g f hct hok (V pf f.len cf) bs w hw hs (by omega))
 have y0:=hb.at (k:=0) (v:=Qp (some ⟨g,0,none⟩)) rfl
 clear hb hw hn hs hct hok hsz
 unfold codL
 generalize f.enc++[11]=X at *
 generalize f.len=m at *
 go_enter Tryz.func192,Tryz.ntmps192
 go_wp2_with (go_at_call 136;(with_reducible refine HC.out.mono ?_);rintro e w1 ⟨rfl,hw',hf⟩;have HW1:=hid hw';have HF1:=hid hf;clear hw' hf)
 (first|go_end0|refine bodyPost_ret (results_none rfl _ _ _) rfl ?_)
 exact ⟨rfl,HW1.out,HF1.out⟩
theorem mc_fst (B g b:Nat) (bs:List UInt8) (f:Fo) (hf:isFun f=true) (pf:Option Addr) (cf:Nat) (w:World) (hs:SA (lo B g) w (V pf f.len cf) f) (hbg:b≠g) (hb:CA b #[Qp (some ⟨g,0,none⟩)] 135 w) (hw:WR B g bs w) (hn:bs.length≤4000000000000) :
  Calls QP 193 #[V pf f.len cf,Qp (some ⟨b,0,none⟩)] w fun e w'=>e=Qr (.tuple #[])∧WR B g (bs++uI (fstA f)) w'∧FR B g w w':=by
 obtain ⟨op,a,b2,n,h,l,ot,body,els,rfl⟩:∃op a b2 n h l ot body els,f=.cons op a b2 n h l ot body els .nil:=by
  match f,hf with
  |.cons op a b2 n h l ot body els .nil,_=>exact ⟨_,_,_,_,_,_,_,_,_,rfl⟩
 obtain ⟨p',c',gf,of,e1,e2,e3⟩:=hs
 injection e1 with e1 _ _
 subst e1
 obtain rfl:=e2 (by simp[Fo.len])
 obtain ⟨hgl,⟨vl,vb,ve,_,x1,_⟩,_⟩:=e3
 have HX1:=hid (fun (W:World) (h:FR B g w W)=>((h.belowL hw.1).cell (p:=⟨gf,of+1,none⟩) hgl).trans x1)
 have HU:=fun (W:World) (h:Hid (WR B g bs W))=>hid (u_says B g bs a W h.out.1 h.out (by omega))
 have HBW:=hid hb
 have HNW:=hid hbg
 have HW0:=hid hw
 have e0:fstA (.cons op a b2 n h l ot body els .nil)=a:=rfl
 rw[e0]
 have e0:(Fo.cons op a b2 n h l ot body els .nil).len=1:=rfl
 rw[e0]
 clear hb hbg hw hn hf e0 e2 x1 hgl
 go_enter Tryz.func193,Tryz.ntmps193
 go_upto_region 0 with fail
 have hS:FR B g w w.drew:=(FR.refl B g w).drew
 have HWC:Hid (WR B g bs w.drew):=HW0
 clear HW0
 refine wp_region_held_drew (S:=fun W=>FR B g w W) (by kernel_rfl) hS (fun _=>?_)
 generalize w.drew=W at *
 refine zt 0 (Qp (some ⟨g,0,none⟩)) rfl ?_ ?_
 ·(intro W hSw;have y0:=(HBW.out.fr hSw (by decide) HNW.out).at (k:=0) (v:=Qp (some ⟨g,0,none⟩)) rfl;have x1:=HX1.out W hSw;go_simp;try (with_reducible rfl))
 try simp only[Qu,sl2,sl0,sl1]
 refine zt 1 (V (some ⟨gf,of,none⟩) 1 cf) rfl ?_ ?_
 ·(intro W hSw;have y0:=(HBW.out.fr hSw (by decide) HNW.out).at (k:=0) (v:=Qp (some ⟨g,0,none⟩)) rfl;have x1:=HX1.out W hSw;go_simp;try (with_reducible rfl))
 try simp only[Qu,sl2,sl0,sl1]
 refine zt 2 (Qp (some ⟨gf,of,none⟩)) rfl ?_ ?_
 ·(intro W hSw;have y0:=(HBW.out.fr hSw (by decide) HNW.out).at (k:=0) (v:=Qp (some ⟨g,0,none⟩)) rfl;have x1:=HX1.out W hSw;go_simp;try (with_reducible rfl))
 try simp only[Qu,sl2,sl0,sl1]
 refine zt 3 (Qp (some ⟨gf,of+1,none⟩)) rfl ?_ ?_
 ·(intro W hSw;have y0:=(HBW.out.fr hSw (by decide) HNW.out).at (k:=0) (v:=Qp (some ⟨g,0,none⟩)) rfl;have x1:=HX1.out W hSw;go_simp;try (with_reducible rfl))
 try simp only[Qu,sl2,sl0,sl1]
 refine zt 4 (I J a) rfl ?_ ?_
 ·(intro W hSw;have y0:=(HBW.out.fr hSw (by decide) HNW.out).at (k:=0) (v:=Qp (some ⟨g,0,none⟩)) rfl;have x1:=HX1.out W hSw;go_simp;try (with_reducible rfl))
 try simp only[Qu,sl2,sl0,sl1]
 refine zr 5 rfl (fun K hK=>?_)
 go_simp
 go_at_call 105
 (with_reducible refine (HU W HWC).out.mono ?_)
 rintro e W1 ⟨rfl,hw',hf⟩
 have HW5:=hid hw'
 replace hS:=hS.trans hf
 clear hw' hf HWC
 refine hK.out _ _ hS (fun _=>?_)
 clear hK K
 try simp only[Qu,sl2,sl0,sl1]
 refine wpAnyH_done (by kernel_rfl) ?_ _
 have HF5:=hid hS
 clear hS
 go_wp2
 (first|go_end0|refine bodyPost_ret (results_none rfl _ _ _) rfl ?_)
 exact ⟨rfl,HW5.out,HF5.out⟩
theorem isFuncs_says (B:Nat) (r m t:Int) (po pi:Option Addr) (no co ni ci ib io:Nat) (gf:Nat→Fo) (q:Nat→Option Addr) (d:Nat→Nat) (w:World) (hB:B≤w.heap.size) (hk:KO B w pi ni ib io gf q d) :
  Calls QP 190 #[.agg #[I J r,I J m,I J t,V po no co,V pi ni ci]] w fun e w'=>e=Qr (G ((QR ni).all (fun k=>isFun (gf k))&&(r==112)))∧Below w.heap.size w w':=by
 obtain ⟨⟨hn,hp,hx⟩,hc⟩:=hk
 have nn62:(ni:Int)<9223372036854775807:=by omega
 have HP:=hid hp
 have HXX:=hid hx
 have HCC:=hid hc
 have HBB:=hid hB
 have HX0:=hid (CA.new w #[I J r,I J m,I J t,V po no co,V pi ni ci] 62)
 have HB0:=hid ((QB w.heap.size w).alloc (Ql _) (Qc #[I J r,I J m,I J t,V po no co,V pi ni ci] 62))
 obtain ⟨R,hR⟩:∃R,R=((QR ni).all (fun k=>isFun (gf k))&&(r==112)):=⟨_,rfl⟩
 rw[←hR]
 have HR:=hid hR
 have y4:=HX0.out.at (k:=4) (v:=V pi ni ci) rfl
 clear hn hp hx hc hB hR
 go_enter Tryz.func190,Tryz.ntmps190
 go_wp2
 go_loopw [8] (fun vi wr=>∃i:Nat,i≤ni∧vi=I J i∧Hid (∀j,j<i→isFun (gf j)=true)∧Hid (Below w.heap.size w wr)∧Hid (CA w.heap.size #[I J r,I J m,I J t,V po no co,V pi ni ci] 62 wr)) (fun vi _=>ni-(intOf vi).toNat)
 case atStart=>exact ⟨0,Qz _,rfl,hid (fun j hj=>absurd hj (Nat.not_lt_zero j)),HB0,HX0⟩
 clear y4
 obtain ⟨i,hi,rfl,HP1,HB,HX⟩:=hrel
 by_cases hlt:i<ni
 ·obtain ⟨hpe,hg⟩:=HP.out (by omega)
  subst hpe
  have z0:w.cell? ⟨ib,io+i,none⟩=some (V (q i) (gf i).len (d i)):=by have:=HXX.out i hlt 0 _ rfl;simpa using this
  have x0:=(HB.out.cell (p:=⟨ib,io+i,none⟩) (Nat.lt_of_lt_of_le hg HBB.out)).trans z0
  have hci:=(HCC.out i hlt).1
  have hbi:=SA.below hci (HB.out.mono HBB.out)
  have HFS:∀b,isFun (gf i)=b→Hid (b=true→∀j,j<i+1→isFun (gf j)=true):=fun b hb=>hid (fun h j hj=>by rcases Nat.lt_succ_iff_lt_or_eq.1 hj with h2|h2;exact HP1.out j h2;subst h2;rw[hb,h])
  have HNO:isFun (gf i)=false→Hid (R=false):=fun h=>hid (by
   rw[HR.out,Bool.and_eq_false_iff]
   refine .inl ?_
   rw[←Bool.not_eq_true,List.all_eq_true]
   intro h2
   have:=h2 i (List.mem_range.2 hlt)
   rw[h]at this
   cases this)
  generalize hfi:gf i=f at *
  generalize q i=qi at *
  generalize d i=di at *
  cases f with
  |nil =>
   have HE:=HNO rfl
   clear z0 hci hbi HFS HNO hfi hg hi
   obtain ⟨ln,hln⟩:∃n:Nat,n=Fo.nil.len:=⟨_,rfl⟩
   rw[←hln]at x0
   have hne:((ln:Int)!=1)=true:=by rw[hln];rfl
   clear hln
   go_wp2
   go_ret
   exact ⟨by rw[HE.out];first|done|rfl,HB.out⟩
  |cons op a b2 n2 h2 l2 ot body els rest =>
   cases rest with
   |cons op' a' b' n' h' l' ot' body' els' rest' =>
    have HE:=HNO rfl
    have hl2:(Fo.cons op a b2 n2 h2 l2 ot body els (.cons op' a' b' n' h' l' ot' body' els' rest')).len=rest'.len+1+1:=rfl
    rw[hl2]at x0
    have hne:(((rest'.len+1+1:Nat):Int)!=1)=true:=by simp[bne];omega
    clear z0 hci hbi HFS HNO hfi hg hi hl2
    generalize rest'.len+1+1=ln at *
    go_wp2
    go_ret
    exact ⟨by rw[HE.out];first|done|rfl,HB.out⟩
   |nil =>
    obtain ⟨p',c',g',o',e1,e2,e3⟩:=hbi
    injection e1 with e1 e6 e5
    subst e1
    subst e5
    clear e6
    obtain rfl:=e2 (by simp[Fo.len])
    obtain ⟨-,⟨-,-,-,u0,-⟩,-⟩:=e3
    replace x0:wr.cell? ⟨ib,io+i,none⟩=some (V (some ⟨g',o',none⟩) 1 _):=x0
    by_cases ho:op=210
    ·subst ho
     have HP2:=HFS true rfl
     clear z0 hci HFS HNO hfi hg hi e2
     replace HP2:=hid (HP2.out rfl)
     go_wp2
     go_roundw
     case rel=>exact ⟨i+1,hlt,by go_num,HP2,HB,HX⟩
     case measure=>simp[intOf];omega
    have hne:(op !=210)=true:=by simp[bne,ho]
    have hn1:(op==210)=false:=by simpa using ho
    have hn2:decide (op=210)=false:=by simpa using ho
    have HE:=HNO (by simp[isFun,ho])
    clear ho z0 hci HFS HNO hfi hg hi e2
    go_wp2
    go_ret
    exact ⟨by rw[HE.out];first|done|rfl,HB.out⟩
 obtain rfl:i=ni:=by omega
 have y0:=HX.out.at (k:=0) (v:=I J r) rfl
 have HE:=hid (show R=(r==112) by
  rw[HR.out,show (QR i).all (fun k=>isFun (gf k))=true by
   rw[List.all_eq_true]
   exact fun j hj=>HP1.out j (List.mem_range.1 hj),Bool.true_and])
 obtain ⟨rb,hrb⟩:∃b,b=(r==112):=⟨_,rfl⟩
 rw[←hrb]at HE
 go_wp2
 go_ret
 exact ⟨by rw[HE.out,hrb];first|done|rfl,HB.out⟩
theorem one_cell {g:Nat} {x:UInt8} {w:World} (h:CA g #[.int .u8 (x.toNat:Nat)] 5 w):∀j u,(QY [x])[j]?=some u→w.cell? ((⟨g,0,none⟩:Addr).add j)=some u:=by
 intro j u hj
 match j,hj with
 |0,hj =>
  obtain rfl:=Option.some.inj hj
  exact h.at rfl
 |j+1,hj=>simp[QY]at hj
theorem mc_byte (B g b:Nat) (bs:List UInt8) (x:UInt8) (w:World) (hbg:b≠g) (hb:CA b #[Qp (some ⟨g,0,none⟩)] 135 w) (hw:WR B g bs w) (hn:bs.length≤4000000000000) :
  Calls QP 201 #[.int .u8 (x.toNat:Nat),Qp (some ⟨b,0,none⟩)] w fun e w'=>e=Qr (.tuple #[])∧WR B g (bs++[x]) w'∧FR B g w w':=by
 have HGA:=hid hw.lt
 obtain ⟨hBg,u,hc,ho⟩:=hw
 obtain ⟨pu,nu,cu,rfl⟩:=own_slice ho
 have HN2:=hid (show bs.length+1≤140737488355328 by omega)
 have HBW:=hid hBg
 have HBX:=hid hb
 have HNE:=hid hbg
 have HC0:=hid hc
 have HO0:=hid ho
 clear hBg hc ho hn hb hbg
 go_enter Tryz.func201,Tryz.ntmps201
 go_upto_region 0 with fail
 have hS:FR B g w w.drew:=(FR.refl B g w).drew
 have HC:Hid (CA g #[V pu nu cu] 137 w.drew):=HC0
 have HO:Hid (w.drew.ownsRow B 5 1 (V pu nu cu) bs.length (QY bs)):=HO0
 clear HC0 HO0
 refine wp_region_held_drew (S:=fun W=>FR B g w W) (by kernel_rfl) hS (fun _=>?_)
 generalize w.drew=W at *
 refine zt 0 (Qp (some ⟨g,0,none⟩)) rfl ?_ ?_
 ·(intro W hSw;have y0:=(HBX.out.fr hSw (by decide) HNE.out).at (k:=0) (v:=Qp (some ⟨g,0,none⟩)) rfl;go_simp;try (with_reducible rfl))
 try simp only[Qu,sl2,sl0,sl1]
 refine zt 1 (Qp (some ⟨g,0,none⟩)) rfl ?_ ?_
 ·(intro W hSw;have y0:=(HBX.out.fr hSw (by decide) HNE.out).at (k:=0) (v:=Qp (some ⟨g,0,none⟩)) rfl;go_simp;try (with_reducible rfl))
 try simp only[Qu,sl2,sl0,sl1]
 refine zt 2 (Qp (some ⟨g,0,none⟩)) rfl ?_ ?_
 ·(intro W hSw;have y0:=(HBX.out.fr hSw (by decide) HNE.out).at (k:=0) (v:=Qp (some ⟨g,0,none⟩)) rfl;go_simp;try (with_reducible rfl))
 try simp only[Qu,sl2,sl0,sl1]
 refine zt 3 (Qp (some ⟨g,0,none⟩)) rfl ?_ ?_
 ·(intro W hSw;have y0:=(HBX.out.fr hSw (by decide) HNE.out).at (k:=0) (v:=Qp (some ⟨g,0,none⟩)) rfl;go_simp;try (with_reducible rfl))
 try simp only[Qu,sl2,sl0,sl1]
 refine zt 5 (.int .u8 (x.toNat:Nat)) rfl ?_ ?_
 ·(intro W hSw;have y0:=(HBX.out.fr hSw (by decide) HNE.out).at (k:=0) (v:=Qp (some ⟨g,0,none⟩)) rfl;go_simp;try (with_reducible rfl))
 try simp only[Qu,sl2,sl0,sl1]
 refine zm [4,6] ?_
 refine zc rfl (fun K hK=>?_) ?_
 ·have z0:=HC.out.at (k:=0) (v:=V pu nu cu) rfl
  go_simp
  clear z0
  refine hK.out _ _ hS (fun _=>?_)
  clear hK K
  try simp only[Qu,sl2,sl0,sl1]
  refine zr 6 rfl (fun K hK=>?_)
  go_simp
  have hcn:=CA.new W #[.int .u8 (x.toNat:Nat)] 5
  replace HO:=hid (HO.out.alloc (Qc #[.int .u8 (x.toNat:Nat)] 5))
  replace HC:=hid (HC.out.alloc (Qc #[.int .u8 (x.toNat:Nat)] 5))
  replace hS:=hS.alloc (Qc #[.int .u8 (x.toNat:Nat)] 5)
  have HN:=hid hcn
  generalize hgn:W.heap.size=gn at *
  clear hgn hcn
  generalize W.alloc (Qc #[.int .u8 (x.toNat:Nat)] 5)=W1 at *
  refine hK.out _ _ hS (fun _=>?_)
  clear hK K
  try simp only[Qu,sl2,sl0,sl1]
  refine zr 7 rfl (fun K hK=>?_)
  refine step_append_own rfl (.tmp 7) (.tmp 9) rfl B (V pu nu cu) bs.length (QY bs) rfl HO.out ⟨gn,0,none⟩ 1 1 (QY [x]) rfl (by rw[Lib.byteCells_length];rfl) (one_cell HN.out) (byteCells_one [x]) (by have:=HN2.out;omega) (Qk HBW.out hS.size) ?_
  intro v3 W2 ho3 hg3 hwh
  have HPV:=hid (own_put hS HGA.out (HC.out.at (v:=V pu nu cu) rfl) hwh)
  replace hS:=hS.trans (FR.grown (g:=g) HO.out hg3 (HC.out.at rfl) (Lib.ownBlock_ne HO.out HC.out (by decide)))
  replace HC:=hid (WR.set_row HC.out HO.out hg3)
  clear hwh HO HN
  obtain ⟨p3,n3,c3,rfl⟩:=own_slice ho3
  have HO3:=hid ho3
  clear ho3 hg3
  refine hK.out _ _ hS (fun _=>?_)
  clear hK K
  try simp only[Qu,sl2,sl0,sl1]
  refine zt 8 (Qp (some ⟨g,0,none⟩)) rfl ?_ ?_
  ·(intro W hSw;have y0:=(HBX.out.fr hSw (by decide) HNE.out).at (k:=0) (v:=Qp (some ⟨g,0,none⟩)) rfl;go_simp;try (with_reducible rfl))
  try simp only[Qu,sl2,sl0,sl1]
  refine zt 9 (Qp (some ⟨g,0,none⟩)) rfl ?_ ?_
  ·(intro W hSw;have y0:=(HBX.out.fr hSw (by decide) HNE.out).at (k:=0) (v:=Qp (some ⟨g,0,none⟩)) rfl;go_simp;try (with_reducible rfl))
  try simp only[Qu,sl2,sl0,sl1]
  refine zr 10 rfl (fun K hK=>?_)
  have z0:=HC.out.at (k:=0) (v:=V pu nu cu) rfl
  have z1:=HC.out.free 0
  go_simp
  clear z0 z1
  have HWR:=hid (WR.put (bs:=bs++[x]) (Qk HBW.out hS.size) HC.out (by rw[QA,Lib.byteCells_append];exact HO3.out))
  replace hS:=hS.put (HC.out.at (v:=V pu nu cu) rfl) (V p3 n3 c3) HPV.out
  clear HC HO3
  generalize W2.setCell ⟨g,0,none⟩ (V p3 n3 c3)=W3 at *
  refine hK.out _ _ hS (fun _=>?_)
  clear hK K
  try simp only[Qu,sl2,sl0,sl1]
  refine wpAnyH_done (by kernel_rfl) ?_ _
  have HF:=hid hS
  clear hS
  go_wp2
  (first|go_end0|refine bodyPost_ret (results_none rfl _ _ _) rfl ?_)
  exact ⟨rfl,HWR.out,HF.out⟩
 refine zc rfl (fun K hK=>?_) ?_
 ·go_simp
  have hcn:=CA.new W #[.int .u8 (x.toNat:Nat)] 5
  replace HO:=hid (HO.out.alloc (Qc #[.int .u8 (x.toNat:Nat)] 5))
  replace HC:=hid (HC.out.alloc (Qc #[.int .u8 (x.toNat:Nat)] 5))
  replace hS:=hS.alloc (Qc #[.int .u8 (x.toNat:Nat)] 5)
  have HN:=hid hcn
  generalize hgn:W.heap.size=gn at *
  clear hgn hcn
  generalize W.alloc (Qc #[.int .u8 (x.toNat:Nat)] 5)=W1 at *
  refine hK.out _ _ hS (fun _=>?_)
  clear hK K
  try simp only[Qu,sl2,sl0,sl1]
  refine zr 4 rfl (fun K hK=>?_)
  have z0:=HC.out.at (k:=0) (v:=V pu nu cu) rfl
  go_simp
  clear z0
  refine hK.out _ _ hS (fun _=>?_)
  clear hK K
  try simp only[Qu,sl2,sl0,sl1]
  refine zr 7 rfl (fun K hK=>?_)
  refine step_append_own rfl (.tmp 7) (.tmp 9) rfl B (V pu nu cu) bs.length (QY bs) rfl HO.out ⟨gn,0,none⟩ 1 1 (QY [x]) rfl (by rw[Lib.byteCells_length];rfl) (one_cell HN.out) (byteCells_one [x]) (by have:=HN2.out;omega) (Qk HBW.out hS.size) ?_
  intro v3 W2 ho3 hg3 hwh
  have HPV:=hid (own_put hS HGA.out (HC.out.at (v:=V pu nu cu) rfl) hwh)
  replace hS:=hS.trans (FR.grown (g:=g) HO.out hg3 (HC.out.at rfl) (Lib.ownBlock_ne HO.out HC.out (by decide)))
  replace HC:=hid (WR.set_row HC.out HO.out hg3)
  clear hwh HO HN
  obtain ⟨p3,n3,c3,rfl⟩:=own_slice ho3
  have HO3:=hid ho3
  clear ho3 hg3
  refine hK.out _ _ hS (fun _=>?_)
  clear hK K
  try simp only[Qu,sl2,sl0,sl1]
  refine zt 8 (Qp (some ⟨g,0,none⟩)) rfl ?_ ?_
  ·(intro W hSw;have y0:=(HBX.out.fr hSw (by decide) HNE.out).at (k:=0) (v:=Qp (some ⟨g,0,none⟩)) rfl;go_simp;try (with_reducible rfl))
  try simp only[Qu,sl2,sl0,sl1]
  refine zt 9 (Qp (some ⟨g,0,none⟩)) rfl ?_ ?_
  ·(intro W hSw;have y0:=(HBX.out.fr hSw (by decide) HNE.out).at (k:=0) (v:=Qp (some ⟨g,0,none⟩)) rfl;go_simp;try (with_reducible rfl))
  try simp only[Qu,sl2,sl0,sl1]
  refine zr 10 rfl (fun K hK=>?_)
  have z0:=HC.out.at (k:=0) (v:=V pu nu cu) rfl
  have z1:=HC.out.free 0
  go_simp
  clear z0 z1
  have HWR:=hid (WR.put (bs:=bs++[x]) (Qk HBW.out hS.size) HC.out (by rw[QA,Lib.byteCells_append];exact HO3.out))
  replace hS:=hS.put (HC.out.at (v:=V pu nu cu) rfl) (V p3 n3 c3) HPV.out
  clear HC HO3
  generalize W2.setCell ⟨g,0,none⟩ (V p3 n3 c3)=W3 at *
  refine hK.out _ _ hS (fun _=>?_)
  clear hK K
  try simp only[Qu,sl2,sl0,sl1]
  refine wpAnyH_done (by kernel_rfl) ?_ _
  have HF:=hid hS
  clear hS
  go_wp2
  (first|go_end0|refine bodyPost_ret (results_none rfl _ _ _) rfl ?_)
  exact ⟨rfl,HWR.out,HF.out⟩
 exact zn
theorem wl_Imp (B g k:Nat) (eg:∀args w,(callFunc k args).run QP w=.ok (.enter k args) w) (b:Nat) (P:Nat→List UInt8) (n blk off c:Nat) (ad:Option Addr) (r0:Nat→ByteArray) (r1:Nat→ByteArray) (t2:Nat→Int) (t3:Nat→Int) (t4:Nat→Int) (t5:Nat→Int) (t6:Nat→Int) (bq7:Nat→Bool) (t8:Nat→Int) (t9:Nat→Int) (bq10:Nat→Bool) (t11:Nat→Int) (bq12:Nat→Bool) (w:World) (hn62:n<9223372036854775807)
  (had:n≠0→ad=some ⟨blk,off,none⟩∧NW B g w blk) (hx:∀i,i<n→w.cell? ⟨blk,off+i*13,none⟩=some (Qs (r0 i))∧w.cell? ⟨blk,off+i*13+1,none⟩=some (Qs (r1 i))∧w.cell? ⟨blk,off+i*13+2,none⟩=some (I J (t2 i))∧w.cell? ⟨blk,off+i*13+3,none⟩=some (I J (t3 i))∧w.cell? ⟨blk,off+i*13+4,none⟩=some (I J (t4 i))∧w.cell? ⟨blk,off+i*13+5,none⟩=some (I J (t5 i))∧w.cell? ⟨blk,off+i*13+6,none⟩=some (I J (t6 i))∧w.cell? ⟨blk,off+i*13+7,none⟩=some (G (bq7 i))∧w.cell? ⟨blk,off+i*13+8,none⟩=some (I J (t8 i))∧w.cell? ⟨blk,off+i*13+9,none⟩=some (I J (t9 i))∧w.cell? ⟨blk,off+i*13+10,none⟩=some (G (bq10 i))∧w.cell? ⟨blk,off+i*13+11,none⟩=some (I J (t11 i))∧w.cell? ⟨blk,off+i*13+12,none⟩=some (G (bq12 i)))
  (hP:∀i,i<n→∀bs W,FR B g w W→WR B g bs W→bs.length≤3000000000000→Calls QP k #[.agg #[Qs (r0 i),Qs (r1 i),I J (t2 i),I J (t3 i),I J (t4 i),I J (t5 i),I J (t6 i),G (bq7 i),I J (t8 i),I J (t9 i),G (bq10 i),I J (t11 i),G (bq12 i)],Qp (some ⟨b,0,none⟩)] W fun e w'=>e=Qr (.tuple #[])∧WR B g (bs++P i) w'∧FR B g W w')
  (bs:List UInt8) (hw:WR B g bs w) (hlen:bs.length+10+(flB n P).length≤3000000000000) :
  Calls QP 172 #[Qp (some ⟨g,0,none⟩),V ad n c,.func (.func k) #[] #[Qp (some ⟨b,0,none⟩)]] w fun e w'=>e=Qr (.tuple #[])∧WR B g (bs++(uI n++flB n P)) w'∧FR B g w w':=by
 have HAD:=hid had
 have HX:=hid hx
 have HP:=hid hP
 have HW:=hid hw
 have HLN:=hid hlen
 have HUL:=hid (uI_len n)
 have nn62:(n:Int)<9223372036854775807:=by omega
 have HN1:=hid (show bs.length+10≤140737488355000 by omega)
 clear had hx hP hw hlen hn62
 go_enter Tryz.func172,Tryz.ntmps172
 go_upto_region 1 with (go_at_call 105;(with_reducible refine (u_says B g bs n _ HW.out.base HW.out HN1.out).mono ?_);rintro e w1 ⟨rfl,hw1,hf1⟩;have HW1:=hid hw1;have HF1:=hid hf1;clear hw1 hf1)
 go_wp2
 go_loopw [14] (fun vi wr=>∃i:Nat,i≤n∧vi=I J i∧Hid (WR B g (bs++(uI n++flB i P)) wr)∧Hid (FR B g w wr)) (fun vi _=>n-(intOf vi).toNat)
 case atStart=>exact ⟨0,Qz _,rfl,by simpa[flB]using HW1,HF1⟩
 obtain ⟨i,hi,rfl,HR,HF⟩:=hrel
 by_cases hlt:i<n
 ·obtain ⟨z0,z1,z2,z3,z4,z5,z6,z7,z8,z9,z10,z11,z12⟩:=HX.out i hlt
  obtain ⟨hpe,hnw⟩:=HAD.out (by omega)
  subst hpe
  have x0:=(QW (a:=⟨blk,off+i*13,none⟩) (HF.out.block blk hnw)).trans z0
  have x1:=(QW (a:=⟨blk,off+i*13+1,none⟩) (HF.out.block blk hnw)).trans z1
  have x2:=(QW (a:=⟨blk,off+i*13+2,none⟩) (HF.out.block blk hnw)).trans z2
  have x3:=(QW (a:=⟨blk,off+i*13+3,none⟩) (HF.out.block blk hnw)).trans z3
  have x4:=(QW (a:=⟨blk,off+i*13+4,none⟩) (HF.out.block blk hnw)).trans z4
  have x5:=(QW (a:=⟨blk,off+i*13+5,none⟩) (HF.out.block blk hnw)).trans z5
  have x6:=(QW (a:=⟨blk,off+i*13+6,none⟩) (HF.out.block blk hnw)).trans z6
  have x7:=(QW (a:=⟨blk,off+i*13+7,none⟩) (HF.out.block blk hnw)).trans z7
  have x8:=(QW (a:=⟨blk,off+i*13+8,none⟩) (HF.out.block blk hnw)).trans z8
  have x9:=(QW (a:=⟨blk,off+i*13+9,none⟩) (HF.out.block blk hnw)).trans z9
  have x10:=(QW (a:=⟨blk,off+i*13+10,none⟩) (HF.out.block blk hnw)).trans z10
  have x11:=(QW (a:=⟨blk,off+i*13+11,none⟩) (HF.out.block blk hnw)).trans z11
  have x12:=(QW (a:=⟨blk,off+i*13+12,none⟩) (HF.out.block blk hnw)).trans z12
  have HLE:=hid (show (bs++(uI n++flB i P)).length≤3000000000000 by
   have h1:=HLN.out
   have h2:=flB_le P (Qo hlt)
   have h3:=HUL.out
   simp only[QA]
   omega)
  have HNX:=hid (show bs++(uI n++flB (i+1) P)=(bs++(uI n++flB i P))++P i by rw[flB];simp only[QS])
  have HKX:=fun (o:Obj)=>hid (HP.out i hlt _ (wr.alloc o) (HF.out.alloc o) (HR.out.alloc o) HLE.out)
  generalize P i=Pi at *
  generalize r0 i=y0 at *
  generalize r1 i=y1 at *
  generalize t2 i=s2 at *
  generalize t3 i=s3 at *
  generalize t4 i=s4 at *
  generalize t5 i=s5 at *
  generalize t6 i=s6 at *
  generalize bq7 i=be7 at *
  generalize t8 i=s8 at *
  generalize t9 i=s9 at *
  generalize bq10 i=be10 at *
  generalize t11 i=s11 at *
  generalize bq12 i=be12 at *
  clear z0 z1 z2 z3 z4 z5 z6 z7 z8 z9 z10 z11 z12 hnw hi
  go_wp2_with (go_at_fn k;(with_reducible refine (HKX _).out.mono ?_);rintro e w2 ⟨rfl,hw2,hf2⟩;have HW2:=hid hw2;have HF2:=hid ((HF.out.alloc _).trans hf2);clear hw2 hf2)
  go_roundw
  case rel =>
   refine ⟨i+1,hlt,by go_num,?_,HF2⟩
   rw[HNX.out]
   exact HW2
  case measure=>simp[intOf];omega
 obtain rfl:i=n:=by omega
 go_wp2
 (first|go_end0|refine bodyPost_ret (results_none rfl _ _ _) rfl ?_)
 exact ⟨rfl,HR.out,HF.out⟩
theorem wl_Exp (B g k:Nat) (eg:∀args w,(callFunc k args).run QP w=.ok (.enter k args) w) (b:Nat) (P:Nat→List UInt8) (n blk off c:Nat) (ad:Option Addr) (r0:Nat→ByteArray) (t1:Nat→Int) (t2:Nat→Int) (w:World) (hn62:n<9223372036854775807)
  (had:n≠0→ad=some ⟨blk,off,none⟩∧NW B g w blk) (hx:∀i,i<n→w.cell? ⟨blk,off+i*3,none⟩=some (Qs (r0 i))∧w.cell? ⟨blk,off+i*3+1,none⟩=some (I J (t1 i))∧w.cell? ⟨blk,off+i*3+2,none⟩=some (I J (t2 i)))
  (hP:∀i,i<n→∀bs W,FR B g w W→WR B g bs W→bs.length≤3000000000000→Calls QP k #[.agg #[Qs (r0 i),I J (t1 i),I J (t2 i)],Qp (some ⟨b,0,none⟩)] W fun e w'=>e=Qr (.tuple #[])∧WR B g (bs++P i) w'∧FR B g W w')
  (bs:List UInt8) (hw:WR B g bs w) (hlen:bs.length+10+(flB n P).length≤3000000000000) :
  Calls QP 186 #[Qp (some ⟨g,0,none⟩),V ad n c,.func (.func k) #[] #[Qp (some ⟨b,0,none⟩)]] w fun e w'=>e=Qr (.tuple #[])∧WR B g (bs++(uI n++flB n P)) w'∧FR B g w w':=by
 have HAD:=hid had
 have HX:=hid hx
 have HP:=hid hP
 have HW:=hid hw
 have HLN:=hid hlen
 have HUL:=hid (uI_len n)
 have nn62:(n:Int)<9223372036854775807:=by omega
 have HN1:=hid (show bs.length+10≤140737488355000 by omega)
 clear had hx hP hw hlen hn62
 go_enter Tryz.func186,Tryz.ntmps186
 go_upto_region 1 with (go_at_call 105;(with_reducible refine (u_says B g bs n _ HW.out.base HW.out HN1.out).mono ?_);rintro e w1 ⟨rfl,hw1,hf1⟩;have HW1:=hid hw1;have HF1:=hid hf1;clear hw1 hf1)
 go_wp2
 go_loopw [14] (fun vi wr=>∃i:Nat,i≤n∧vi=I J i∧Hid (WR B g (bs++(uI n++flB i P)) wr)∧Hid (FR B g w wr)) (fun vi _=>n-(intOf vi).toNat)
 case atStart=>exact ⟨0,Qz _,rfl,by simpa[flB]using HW1,HF1⟩
 obtain ⟨i,hi,rfl,HR,HF⟩:=hrel
 by_cases hlt:i<n
 ·obtain ⟨z0,z1,z2⟩:=HX.out i hlt
  obtain ⟨hpe,hnw⟩:=HAD.out (by omega)
  subst hpe
  have x0:=(QW (a:=⟨blk,off+i*3,none⟩) (HF.out.block blk hnw)).trans z0
  have x1:=(QW (a:=⟨blk,off+i*3+1,none⟩) (HF.out.block blk hnw)).trans z1
  have x2:=(QW (a:=⟨blk,off+i*3+2,none⟩) (HF.out.block blk hnw)).trans z2
  have HLE:=hid (show (bs++(uI n++flB i P)).length≤3000000000000 by
   have h1:=HLN.out
   have h2:=flB_le P (Qo hlt)
   have h3:=HUL.out
   simp only[QA]
   omega)
  have HNX:=hid (show bs++(uI n++flB (i+1) P)=(bs++(uI n++flB i P))++P i by rw[flB];simp only[QS])
  have HKX:=fun (o:Obj)=>hid (HP.out i hlt _ (wr.alloc o) (HF.out.alloc o) (HR.out.alloc o) HLE.out)
  generalize P i=Pi at *
  generalize r0 i=y0 at *
  generalize t1 i=s1 at *
  generalize t2 i=s2 at *
  clear z0 z1 z2 hnw hi
  go_wp2_with (go_at_fn k;(with_reducible refine (HKX _).out.mono ?_);rintro e w2 ⟨rfl,hw2,hf2⟩;have HW2:=hid hw2;have HF2:=hid ((HF.out.alloc _).trans hf2);clear hw2 hf2)
  go_roundw
  case rel =>
   refine ⟨i+1,hlt,by go_num,?_,HF2⟩
   rw[HNX.out]
   exact HW2
  case measure=>simp[intOf];omega
 obtain rfl:i=n:=by omega
 go_wp2
 (first|go_end0|refine bodyPost_ret (results_none rfl _ _ _) rfl ?_)
 exact ⟨rfl,HR.out,HF.out⟩
theorem wl_Elm (B g k:Nat) (eg:∀args w,(callFunc k args).run QP w=.ok (.enter k args) w) (b:Nat) (P:Nat→List UInt8) (n blk off c:Nat) (ad:Option Addr) (t0:Nat→Int) (t1:Nat→Int) (t2:Nat→Int) (p3:Nat→Option Addr) (n3:Nat→Nat) (c3:Nat→Nat) (p4:Nat→Option Addr) (n4:Nat→Nat) (c4:Nat→Nat) (w:World) (hn62:n<9223372036854775807)
  (had:n≠0→ad=some ⟨blk,off,none⟩∧NW B g w blk) (hx:∀i,i<n→w.cell? ⟨blk,off+i*5,none⟩=some (I J (t0 i))∧w.cell? ⟨blk,off+i*5+1,none⟩=some (I J (t1 i))∧w.cell? ⟨blk,off+i*5+2,none⟩=some (I J (t2 i))∧w.cell? ⟨blk,off+i*5+3,none⟩=some (V (p3 i) (n3 i) (c3 i))∧w.cell? ⟨blk,off+i*5+4,none⟩=some (V (p4 i) (n4 i) (c4 i)))
  (hP:∀i,i<n→∀bs W,FR B g w W→WR B g bs W→bs.length≤3000000000000→Calls QP k #[.agg #[I J (t0 i),I J (t1 i),I J (t2 i),V (p3 i) (n3 i) (c3 i),V (p4 i) (n4 i) (c4 i)],Qp (some ⟨b,0,none⟩)] W fun e w'=>e=Qr (.tuple #[])∧WR B g (bs++P i) w'∧FR B g W w')
  (bs:List UInt8) (hw:WR B g bs w) (hlen:bs.length+10+(flB n P).length≤3000000000000) :
  Calls QP 189 #[Qp (some ⟨g,0,none⟩),V ad n c,.func (.func k) #[] #[Qp (some ⟨b,0,none⟩)]] w fun e w'=>e=Qr (.tuple #[])∧WR B g (bs++(uI n++flB n P)) w'∧FR B g w w':=by
 have HAD:=hid had
 have HX:=hid hx
 have HP:=hid hP
 have HW:=hid hw
 have HLN:=hid hlen
 have HUL:=hid (uI_len n)
 have nn62:(n:Int)<9223372036854775807:=by omega
 have HN1:=hid (show bs.length+10≤140737488355000 by omega)
 clear had hx hP hw hlen hn62
 go_enter Tryz.func189,Tryz.ntmps189
 go_upto_region 1 with (go_at_call 105;(with_reducible refine (u_says B g bs n _ HW.out.base HW.out HN1.out).mono ?_);rintro e w1 ⟨rfl,hw1,hf1⟩;have HW1:=hid hw1;have HF1:=hid hf1;clear hw1 hf1)
 go_wp2
 go_loopw [14] (fun vi wr=>∃i:Nat,i≤n∧vi=I J i∧Hid (WR B g (bs++(uI n++flB i P)) wr)∧Hid (FR B g w wr)) (fun vi _=>n-(intOf vi).toNat)
 case atStart=>exact ⟨0,Qz _,rfl,by simpa[flB]using HW1,HF1⟩
 obtain ⟨i,hi,rfl,HR,HF⟩:=hrel
 by_cases hlt:i<n
 ·obtain ⟨z0,z1,z2,z3,z4⟩:=HX.out i hlt
  obtain ⟨hpe,hnw⟩:=HAD.out (by omega)
  subst hpe
  have x0:=(QW (a:=⟨blk,off+i*5,none⟩) (HF.out.block blk hnw)).trans z0
  have x1:=(QW (a:=⟨blk,off+i*5+1,none⟩) (HF.out.block blk hnw)).trans z1
  have x2:=(QW (a:=⟨blk,off+i*5+2,none⟩) (HF.out.block blk hnw)).trans z2
  have x3:=(QW (a:=⟨blk,off+i*5+3,none⟩) (HF.out.block blk hnw)).trans z3
  have x4:=(QW (a:=⟨blk,off+i*5+4,none⟩) (HF.out.block blk hnw)).trans z4
  have HLE:=hid (show (bs++(uI n++flB i P)).length≤3000000000000 by
   have h1:=HLN.out
   have h2:=flB_le P (Qo hlt)
   have h3:=HUL.out
   simp only[QA]
   omega)
  have HNX:=hid (show bs++(uI n++flB (i+1) P)=(bs++(uI n++flB i P))++P i by rw[flB];simp only[QS])
  have HKX:=fun (o:Obj)=>hid (HP.out i hlt _ (wr.alloc o) (HF.out.alloc o) (HR.out.alloc o) HLE.out)
  generalize P i=Pi at *
  generalize t0 i=s0 at *
  generalize t1 i=s1 at *
  generalize t2 i=s2 at *
  generalize p3 i=q3 at *
  generalize n3 i=m3 at *
  generalize c3 i=d3 at *
  generalize p4 i=q4 at *
  generalize n4 i=m4 at *
  generalize c4 i=d4 at *
  clear z0 z1 z2 z3 z4 hnw hi
  go_wp2_with (go_at_fn k;(with_reducible refine (HKX _).out.mono ?_);rintro e w2 ⟨rfl,hw2,hf2⟩;have HW2:=hid hw2;have HF2:=hid ((HF.out.alloc _).trans hf2);clear hw2 hf2)
  go_roundw
  case rel =>
   refine ⟨i+1,hlt,by go_num,?_,HF2⟩
   rw[HNX.out]
   exact HW2
  case measure=>simp[intOf];omega
 obtain rfl:i=n:=by omega
 go_wp2
 (first|go_end0|refine bodyPost_ret (results_none rfl _ _ _) rfl ?_)
 exact ⟨rfl,HR.out,HF.out⟩
theorem wl_Dat (B g k:Nat) (eg:∀args w,(callFunc k args).run QP w=.ok (.enter k args) w) (b:Nat) (P:Nat→List UInt8) (n blk off c:Nat) (ad:Option Addr) (t0:Nat→Int) (t1:Nat→Int) (p2:Nat→Option Addr) (n2:Nat→Nat) (c2:Nat→Nat) (p3:Nat→Option Addr) (n3:Nat→Nat) (c3:Nat→Nat) (w:World) (hn62:n<9223372036854775807)
  (had:n≠0→ad=some ⟨blk,off,none⟩∧NW B g w blk) (hx:∀i,i<n→w.cell? ⟨blk,off+i*4,none⟩=some (I J (t0 i))∧w.cell? ⟨blk,off+i*4+1,none⟩=some (I J (t1 i))∧w.cell? ⟨blk,off+i*4+2,none⟩=some (V (p2 i) (n2 i) (c2 i))∧w.cell? ⟨blk,off+i*4+3,none⟩=some (V (p3 i) (n3 i) (c3 i)))
  (hP:∀i,i<n→∀bs W,FR B g w W→WR B g bs W→bs.length≤3000000000000→Calls QP k #[.agg #[I J (t0 i),I J (t1 i),V (p2 i) (n2 i) (c2 i),V (p3 i) (n3 i) (c3 i)],Qp (some ⟨b,0,none⟩)] W fun e w'=>e=Qr (.tuple #[])∧WR B g (bs++P i) w'∧FR B g W w')
  (bs:List UInt8) (hw:WR B g bs w) (hlen:bs.length+10+(flB n P).length≤3000000000000) :
  Calls QP 199 #[Qp (some ⟨g,0,none⟩),V ad n c,.func (.func k) #[] #[Qp (some ⟨b,0,none⟩)]] w fun e w'=>e=Qr (.tuple #[])∧WR B g (bs++(uI n++flB n P)) w'∧FR B g w w':=by
 have HAD:=hid had
 have HX:=hid hx
 have HP:=hid hP
 have HW:=hid hw
 have HLN:=hid hlen
 have HUL:=hid (uI_len n)
 have nn62:(n:Int)<9223372036854775807:=by omega
 have HN1:=hid (show bs.length+10≤140737488355000 by omega)
 clear had hx hP hw hlen hn62
 go_enter Tryz.func199,Tryz.ntmps199
 go_upto_region 1 with (go_at_call 105;(with_reducible refine (u_says B g bs n _ HW.out.base HW.out HN1.out).mono ?_);rintro e w1 ⟨rfl,hw1,hf1⟩;have HW1:=hid hw1;have HF1:=hid hf1;clear hw1 hf1)
 go_wp2
 go_loopw [14] (fun vi wr=>∃i:Nat,i≤n∧vi=I J i∧Hid (WR B g (bs++(uI n++flB i P)) wr)∧Hid (FR B g w wr)) (fun vi _=>n-(intOf vi).toNat)
 case atStart=>exact ⟨0,Qz _,rfl,by simpa[flB]using HW1,HF1⟩
 obtain ⟨i,hi,rfl,HR,HF⟩:=hrel
 by_cases hlt:i<n
 ·obtain ⟨z0,z1,z2,z3⟩:=HX.out i hlt
  obtain ⟨hpe,hnw⟩:=HAD.out (by omega)
  subst hpe
  have x0:=(QW (a:=⟨blk,off+i*4,none⟩) (HF.out.block blk hnw)).trans z0
  have x1:=(QW (a:=⟨blk,off+i*4+1,none⟩) (HF.out.block blk hnw)).trans z1
  have x2:=(QW (a:=⟨blk,off+i*4+2,none⟩) (HF.out.block blk hnw)).trans z2
  have x3:=(QW (a:=⟨blk,off+i*4+3,none⟩) (HF.out.block blk hnw)).trans z3
  have HLE:=hid (show (bs++(uI n++flB i P)).length≤3000000000000 by
   have h1:=HLN.out
   have h2:=flB_le P (Qo hlt)
   have h3:=HUL.out
   simp only[QA]
   omega)
  have HNX:=hid (show bs++(uI n++flB (i+1) P)=(bs++(uI n++flB i P))++P i by rw[flB];simp only[QS])
  have HKX:=fun (o:Obj)=>hid (HP.out i hlt _ (wr.alloc o) (HF.out.alloc o) (HR.out.alloc o) HLE.out)
  generalize P i=Pi at *
  generalize t0 i=s0 at *
  generalize t1 i=s1 at *
  generalize p2 i=q2 at *
  generalize n2 i=m2 at *
  generalize c2 i=d2 at *
  generalize p3 i=q3 at *
  generalize n3 i=m3 at *
  generalize c3 i=d3 at *
  clear z0 z1 z2 z3 hnw hi
  go_wp2_with (go_at_fn k;(with_reducible refine (HKX _).out.mono ?_);rintro e w2 ⟨rfl,hw2,hf2⟩;have HW2:=hid hw2;have HF2:=hid ((HF.out.alloc _).trans hf2);clear hw2 hf2)
  go_roundw
  case rel =>
   refine ⟨i+1,hlt,by go_num,?_,HF2⟩
   rw[HNX.out]
   exact HW2
  case measure=>simp[intOf];omega
 obtain rfl:i=n:=by omega
 go_wp2
 (first|go_end0|refine bodyPost_ret (results_none rfl _ _ _) rfl ?_)
 exact ⟨rfl,HR.out,HF.out⟩
theorem codL_len (f:Fo) (hok:okE f) (hsz:f.siz≤61200000):(codL f).length≤61200001:=by
 have:=enc_siz f hok
 unfold codL
 simp only[QA,QC,QN]
 omega
structure Goods (ng:Nat) (gf:Nat→Fo):Prop where
 n:ng≤100
 ct:∀k,k<ng→(gf k).cnt<9223372036854775806
 ok:∀k,k<ng→okE (gf k)
 sz:∀k,k<ng→(gf k).siz≤61200000
theorem ini_len (b:Bool) (f:Fo) (hok:okE f) (hsz:f.siz≤61200000):(iniL b f).length≤61200001:=by
 unfold iniL
 split
 ·have:=uI_len (fstA f)
  omega
 exact codL_len f hok hsz
theorem inis_len {ng:Nat} {gf:Nat→Fo} (h:Goods ng gf) (b:Bool):(flB ng (fun k=>iniL b (gf k))).length≤6120000100:=by
 have h1:=flB_bound (fun k=>iniL b (gf k)) 61200001 ng (fun i hi=>ini_len b (gf i) (h.ok i hi) (h.sz i hi))
 have h2:ng*61200001≤100*61200001:=Nat.mul_le_mul_right _ h.n
 omega
theorem list_false (B g b L:Nat) (hL:L≤lo B g) (ng:Nat) (gf:Nat→Fo) (hg:Goods ng gf) (pg:Option Addr) (cg bg og:Nat) (q:Nat→Option Addr) (d:Nat→Nat) (w:World) (hk:KO L w pg ng bg og gf q d) (hbg:b≠g) (hb:CA b #[Qp (some ⟨g,0,none⟩)] 135 w) (bs:List UInt8) (hw:WR B g bs w) (hn:bs.length≤3100000000000) :
  Calls QP 191 #[Qp (some ⟨g,0,none⟩),V pg ng cg,.func (.func 192) #[] #[Qp (some ⟨b,0,none⟩)]] w fun e w'=>e=Qr (.tuple #[])∧WR B g (bs++(uI ng++flB ng (fun k=>iniL false (gf k)))) w'∧FR B g w w':=by
 have h3:=inis_len hg false
 refine wl_codes B g 192 (fun _ _=>rfl) b (fun k=>iniL false (gf k)) ng bg og cg pg q (fun k=>(gf k).len) d w hk.1.1 (fun h=>⟨(hk.1.2.1 h).1,?_⟩) (fun i hi=>by have:=hk.1.2.2 i hi 0 _ rfl;simpa using this) (fun i hi bs' W hF hW hbl=>?_) bs hw (by omega)
 ·have h1:=(hk.1.2.1 h).2
  have h2:=lo_g B g
  have h3:=lo_B B g
  have h4:=hw.1
  exact ⟨by omega,by omega,.inl (by omega)⟩
 exact mc_code B g b bs' (gf i) (q i) (d i) W (hg.ct i hi) (hg.ok i hi) (hg.sz i hi) (SA.mono (SA.below (hk.2 i hi).1 ((hF.belowL hw.1).mono hL)) hL) (hb.fr hF (by decide) hbg) hW hbl
theorem list_true (B g b L:Nat) (hL:L≤lo B g) (ng:Nat) (gf:Nat→Fo) (hg:Goods ng gf) (hfs:∀k,k<ng→isFun (gf k)=true) (pg:Option Addr) (cg bg og:Nat) (q:Nat→Option Addr) (d:Nat→Nat) (w:World) (hk:KO L w pg ng bg og gf q d) (hbg:b≠g) (hb:CA b #[Qp (some ⟨g,0,none⟩)] 135 w) (bs:List UInt8) (hw:WR B g bs w) (hn:bs.length≤3100000000000) :
  Calls QP 191 #[Qp (some ⟨g,0,none⟩),V pg ng cg,.func (.func 193) #[] #[Qp (some ⟨b,0,none⟩)]] w fun e w'=>e=Qr (.tuple #[])∧WR B g (bs++(uI ng++flB ng (fun k=>iniL true (gf k)))) w'∧FR B g w w':=by
 have h3:=inis_len hg true
 refine wl_codes B g 193 (fun _ _=>rfl) b (fun k=>iniL true (gf k)) ng bg og cg pg q (fun k=>(gf k).len) d w hk.1.1 (fun h=>⟨(hk.1.2.1 h).1,?_⟩) (fun i hi=>by have:=hk.1.2.2 i hi 0 _ rfl;simpa using this) (fun i hi bs' W hF hW hbl=>?_) bs hw (by omega)
 ·have h1:=(hk.1.2.1 h).2
  have h2:=lo_g B g
  have h3:=lo_B B g
  have h4:=hw.1
  exact ⟨by omega,by omega,.inl (by omega)⟩
 exact mc_fst B g b bs' (gf i) (hfs i hi) (q i) (d i) W (SA.mono (SA.below (hk.2 i hi).1 ((hF.belowL hw.1).mono hL)) hL) hbg (hb.fr hF (by decide) hbg) hW hbl
def fmB (fu:Bool):Int:=if fu=true then 0 else 4
def kdB (fu:Bool) (r:Int):Int:=if fu=true then 0 else r
noncomputable def preE (fm kd r m t:Int) (f:Fo):List UInt8 :=
 if m=0 then (if t=0∧r=112 then byI fm::(f.enc++[11]) else byI (fm+2)::(uI t++(f.enc++[11]++[byI kd]))) else if m=1 then [byI (fm+1),byI kd] else [byI (fm+3),byI kd]
theorem preE_len (fm kd r m t:Int) (f:Fo):(preE fm kd r m t f).length≤f.enc.length+20:=by
 have:=uI_len t
 unfold preE
 repeat' split
 all_goals simp only[QA,QC,QN]
 all_goals omega
theorem elem_any (B g L:Nat) (bs:List UInt8) (r m t:Int) (f:Fo) (po pg:Option Addr) (co cg ng bg og:Nat) (gf:Nat→Fo) (q:Nat→Option Addr) (d:Nat→Nat) (w:World) (fu:Bool) (hm:m=0∨m=1∨m=2) (hL:L≤lo B g) (hct:f.cnt<9223372036854775806) (hok:okE f) (hsz:f.siz≤61200000) (hs:SA L w (V po f.len co) f)
  (hg:Goods ng gf) (hk:KO L w pg ng bg og gf q d) (hfs:((QR ng).all (fun k=>isFun (gf k))&&((r:Int)==112))=fu) (hw:WR B g bs w) (hn:bs.length≤3000000000000) :
  Calls QP 122 #[Qp (some ⟨g,0,none⟩),.agg #[I J r,I J m,I J t,V po f.len co,V pg ng cg]] w fun e w'=>e=Qr (.tuple #[])∧WR B g (bs++(preE (fmB fu) (kdB fu r) r m t f++(uI ng++flB ng (fun k=>iniL fu (gf k))))) w'∧FR B g w w':=by
 have hB:=hw.1
 have hLw:L≤w.heap.size:=Qk hL (Qk (lo_B B g) hB)
 have hgl:=hw.lt
 have hb1':=(CA.new w #[Qp (some ⟨g,0,none⟩)] 135).alloc (Qc #[I J r,I J m,I J t,V po f.len co,V pg ng cg] 62)
 have hb2:=CA.new (w.alloc (Qc #[Qp (some ⟨g,0,none⟩)] 135)) #[I J r,I J m,I J t,V po f.len co,V pg ng cg] 62
 rw[size_al]at hb2
 have hF00:=((FR.refl B g w).alloc (Qc #[Qp (some ⟨g,0,none⟩)] 135)).alloc (Qc #[I J r,I J m,I J t,V po f.len co,V pg ng cg] 62)
 have HF00:=hid hF00
 have HB0:=hid hb1'
 have HX0:=hid hb2
 have HW00:=hid ((hw.alloc (Qc #[Qp (some ⟨g,0,none⟩)] 135)).alloc (Qc #[I J r,I J m,I J t,V po f.len co,V pg ng cg] 62))
 have HNB:=hid (show w.heap.size≠g by omega)
 have HNX:=hid (show w.heap.size+1≠g by omega)
 have HCT:=hid hct
 have HOK:=hid hok
 have HM:=hid hm
 have HSAw:=hid (fun (W:World) (h:FR B g w W)=>SA.mono (SA.below hs ((h.belowL hB).mono hL)) hL)
 have HIS:=hid (fun (W:World) (h:FR B g w W)=>isFuncs_says L r m t po pg f.len co ng cg bg og gf q d W (Qk hLw h.size) (hk.below ((h.belowL hB).mono hL)))
 rw[hfs]at HIS
 have HLSw:∀b:Bool,fu=b→∀(bs:List UInt8) (W:World),FR B g w W→CA w.heap.size #[Qp (some ⟨g,0,none⟩)] 135 W→WR B g bs W→bs.length≤3100000000000→Calls QP 191 #[Qp (some ⟨g,0,none⟩),V pg ng cg,.func (.func (if b=true then 193 else 192)) #[] #[Qp (some ⟨w.heap.size,0,none⟩)]] W fun e w'=>e=Qr (.tuple #[])∧WR B g (bs++(uI ng++flB ng (fun k=>iniL b (gf k)))) w'∧FR B g W w':=by
  intro b hb bs W h hbx hW hn
  cases b with
  |false=>exact list_false B g w.heap.size L hL ng gf hg pg cg bg og q d W (hk.below ((h.belowL hB).mono hL)) (by omega) hbx bs hW hn
  |true=>exact list_true B g w.heap.size L hL ng gf hg (fun k hk2=>List.all_eq_true.1 ((Bool.and_eq_true _ _▸(hb▸hfs):_∧_).1) k (List.mem_range.2 hk2)) pg cg bg og q d W (hk.below ((h.belowL hB).mono hL)) (by omega) hbx bs hW hn
 have hef:=enc_siz f hok
 have hut:=uI_len t
 have hu0:=uI_len 0
 have HBN:=hid (show bs.length≤3000000000000∧(uI t).length≤10∧(uI 0).length≤10∧f.enc.length≤61200000∧f.siz≤61200000 by omega)
 have hlf:=HLSw false
 have hlt:=HLSw true
 simp only[Bool.false_eq_true,if_false]at hlf
 simp only[if_true]at hlt
 have HLf0:=hid hlf
 have HLt0:=hid hlt
 clear hb1' hb2 hF00 hw hn hct hok hsz hs hg hk hfs hL hB hLw hgl hef hut hu0 hm HLSw hlf hlt
 generalize f.len=nf at *
 go_enter Tryz.func122,Tryz.ntmps122
 go_upto_region 1 with fail
 generalize (w.alloc (Qc #[Qp (some ⟨g,0,none⟩)] 135)).alloc (Qc #[I J r,I J m,I J t,V po nf co,V pg ng cg] 62)=w0 at *
 generalize w.heap.size+1=be at *
 generalize w.heap.size=bx at *
 have HBa:=fun (W:World) (h:FR B g w0 W)=>hid (HB0.out.fr h (by decide) HNB.out)
 have HXa:=fun (W:World) (h:FR B g w0 W)=>hid (HX0.out.fr h (by decide) HNX.out)
 have HSA:=hid (fun (W:World) (h:FR B g w0 W)=>HSAw.out W (HF00.out.trans h))
 have HLSf:=hid (fun (hz:fu=false) (bs:List UInt8) (W:World) (h:FR B g w0 W)=>HLf0.out hz bs W (HF00.out.trans h))
 have HLSt:=hid (fun (hz:fu=true) (bs:List UInt8) (W:World) (h:FR B g w0 W)=>HLt0.out hz bs W (HF00.out.trans h))
 have hmf:∀(fn:Fn) (first cap:Array Value) (w:World),(Instr.makeFunc fn first cap).run QP w=.ok (.func fn first cap) w:=fun _ _ _ _=>rfl
 clear HSAw HLf0 HLt0
 have hS:Below w0.heap.size w0 w0.drew:=(QB _ _).drew
 refine wp_region_held_drew (S:=fun W=>Below w0.heap.size w0 W) (by kernel_rfl) hS (fun _=>?_)
 generalize w0.drew=W at *
 refine zt 0 (Qp (some ⟨be,0,none⟩)) rfl ?_ ?_
 ·(intro W hSw;have x0:=(HX0.out.below hSw HX0.out.lt).at (k:=0) (v:=I J r) rfl;go_simp;try (exact wrap_b8 _);try (with_reducible rfl))
 try simp only[Qu,sl2,sl0,sl1]
 refine zt 1 (I J r) rfl ?_ ?_
 ·(intro W hSw;have x0:=(HX0.out.below hSw HX0.out.lt).at (k:=0) (v:=I J r) rfl;go_simp;try (exact wrap_b8 _);try (with_reducible rfl))
 try simp only[Qu,sl2,sl0,sl1]
 refine zt 2 (I J 4) rfl ?_ ?_
 ·(intro W hSw;have x0:=(HX0.out.below hSw HX0.out.lt).at (k:=0) (v:=I J r) rfl;go_simp;try (exact wrap_b8 _);try (with_reducible rfl))
 try simp only[Qu,sl2,sl0,sl1]
 refine zt 3 (I J r) rfl ?_ ?_
 ·(intro W hSw;have x0:=(HX0.out.below hSw HX0.out.lt).at (k:=0) (v:=I J r) rfl;go_simp;try (exact wrap_b8 _);try (with_reducible rfl))
 try simp only[Qu,sl2,sl0,sl1]
 refine wpAnyH_done (by kernel_rfl) ?_ _
 have HF0:=hid (FR.of (g:=g) (B:=B) hS)
 have HW0:=hid (HW00.out.call hS)
 clear hS HW00
 generalize W=w1' at *
 have HBb0:=HBa _ HF0.out;have HXb0:=HXa _ HF0.out;have y0:=HBb0.out.at (k:=0) (v:=Qp (some ⟨g,0,none⟩)) rfl;have x0:=HXb0.out.at (k:=0) (v:=I J r) rfl;have x1:=HXb0.out.at (k:=1) (v:=I J m) rfl;have x2:=HXb0.out.at (k:=2) (v:=I J t) rfl;have x3:=HXb0.out.at (k:=3) (v:=V po nf co) rfl;have x4:=HXb0.out.at (k:=4) (v:=V pg ng cg) rfl
 have HII:=hid (HIS.out w1' (HF00.out.trans HF0.out))
 go_upto_if 9 with (go_at_call 190;(with_reducible refine HII.out.mono ?_);rintro e w2' ⟨rfl,hb⟩;have HF9:=hid (HF0.out.trans (FR.of hb));have HW9:=hid (HW0.out.call hb);clear hb)
 go_cut [4,5] (fun v4 v5 wc=>v4=I J (fmB fu)∧v5=I J (kdB fu r)∧Hid (FR B g w0 wc)∧Hid (WR B g bs wc))
 case first =>
  cases fu
  ·go_wp2
   go_meet
   exact ⟨rfl,rfl,HF9,HW9⟩
  go_wp2
  go_meet
  exact ⟨rfl,rfl,HF9,HW9⟩
 clear HII HIS HF9 HW9 HF0 HW0
 obtain ⟨rfl,rfl,HF1,HW1⟩:=hcut
 clear y0 x0 x1 x2 x3 x4
 have HBb1:=HBa _ HF1.out;have HXb1:=HXa _ HF1.out;have y0:=HBb1.out.at (k:=0) (v:=Qp (some ⟨g,0,none⟩)) rfl;have x0:=HXb1.out.at (k:=0) (v:=I J r) rfl;have x1:=HXb1.out.at (k:=1) (v:=I J m) rfl;have x2:=HXb1.out.at (k:=2) (v:=I J t) rfl;have x3:=HXb1.out.at (k:=3) (v:=V po nf co) rfl;have x4:=HXb1.out.at (k:=4) (v:=V pg ng cg) rfl
 have HPL:Hid ((bs++preE (fmB fu) (kdB fu r) r m t f).length≤3100000000000):=by
  have h1:=HBN.out
  have h2:=preE_len (fmB fu) (kdB fu r) r m t f
  show (_:Nat)≤_
  rw[QA]
  omega
 obtain ⟨fm,hfm⟩:∃x,x=fmB fu:=⟨_,rfl⟩
 obtain ⟨kd,hkd⟩:∃x,x=kdB fu r:=⟨_,rfl⟩
 rw[←hfm,←hkd]at HPL ⊢
 have HFM:=hid hfm
 have HKD:=hid hkd
 have hfb:fm=0∨fm=4:=by rw[hfm];cases fu<;>simp[fmB]
 have h0w:wrap64 fm=fm:=by unfold wrap64;omega
 have h1w:wrap64 (fm+1)=fm+1:=by unfold wrap64;omega
 have h2w:wrap64 (fm+2)=fm+2:=by unfold wrap64;omega
 have h3w:wrap64 (fm+3)=fm+3:=by unfold wrap64;omega
 clear hfb hfm hkd
 go_upto_block 0 with fail
 go_cut [] (fun wd=>Hid (FR B g w0 wd)∧Hid (WR B g (bs++preE fm kd r m t f) wd))
 case rest =>
  obtain ⟨HF2,HW2⟩:=hcut
  clear y0 x0 x1 x2 x3 x4
  have HBb2:=HBa _ HF2.out;have HXb2:=HXa _ HF2.out;have y0:=HBb2.out.at (k:=0) (v:=Qp (some ⟨g,0,none⟩)) rfl;have x0:=HXb2.out.at (k:=0) (v:=I J r) rfl;have x1:=HXb2.out.at (k:=1) (v:=I J m) rfl;have x2:=HXb2.out.at (k:=2) (v:=I J t) rfl;have x3:=HXb2.out.at (k:=3) (v:=V po nf co) rfl;have x4:=HXb2.out.at (k:=4) (v:=V pg ng cg) rfl
  cases fu
  ·have h4:fm=4:=HFM.out
   subst h4
   go_wp2_with (go_at_call 191;(with_reducible refine (HLSf.out rfl _ _ HF2.out HBb2.out HW2.out (by have h1:=HPL.out;simp only[QA]at h1 ⊢;omega)).mono ?_);rintro e w3 ⟨rfl,hw',hf⟩;have HW3:=hid hw';have HF3:=hid (HF2.out.trans hf);clear hw' hf)
   (first|go_end0|refine bodyPost_ret (results_none rfl _ _ _) rfl ?_)
   exact ⟨rfl,by have h:=HW3.out;rw[HKD.out]at h;simpa[fmB]using h,HF00.out.trans HF3.out⟩
  have h4:fm=0:=HFM.out
  subst h4
  go_wp2_with (go_at_call 191;(with_reducible refine (HLSt.out rfl _ _ HF2.out HBb2.out HW2.out (by have h1:=HPL.out;simp only[QA]at h1 ⊢;omega)).mono ?_);rintro e w3 ⟨rfl,hw',hf⟩;have HW3:=hid hw';have HF3:=hid (HF2.out.trans hf);clear hw' hf)
  (first|go_end0|refine bodyPost_ret (results_none rfl _ _ _) rfl ?_)
  exact ⟨rfl,by have h:=HW3.out;rw[HKD.out]at h;simpa[fmB]using h,HF00.out.trans HF3.out⟩
 rcases HM.out with rfl|rfl|rfl
 ·by_cases ht:t=0
  ·by_cases hr:r=112
   ·subst ht
    subst hr
    clear y0 x0 x1 x2 x3 x4
    have HBb1:=HBa _ HF1.out
    have HXb1:=HXa _ HF1.out
    have y0:=HBb1.out.at (k:=0) (v:=Qp (some ⟨g,0,none⟩)) rfl
    have x0:=HXb1.out.at (k:=0) (v:=I J 112) rfl
    have x1:=HXb1.out.at (k:=1) (v:=I J 0) rfl
    have x2:=HXb1.out.at (k:=2) (v:=I J 0) rfl
    have x3:=HXb1.out.at (k:=3) (v:=V po nf co) rfl
    have x4:=HXb1.out.at (k:=4) (v:=V pg ng cg) rfl
    go_wp2_with (first
     |(go_at_call 169;(with_reducible refine (bytes_says B g _ [fm] _ _ (HW1.out.alloc _) (LT.one (fm) 1 HW1.out.lt) (by have h1:=HBN.out;(try simp only[QA,QC,QN,QM]);omega)).mono ?_);rintro e w2 ⟨rfl,hw',hf⟩;have HW2:=hid hw';have HF2:=hid ((HF1.out.alloc _).trans hf);clear y0 x0 x1 x2 x3 x4;have HBb2:=HBa _ HF2.out;have HXb2:=HXa _ HF2.out;have y0:=HBb2.out.at (k:=0) (v:=Qp (some ⟨g,0,none⟩)) rfl;have x0:=HXb2.out.at (k:=0) (v:=I J 112) rfl;have x1:=HXb2.out.at (k:=1) (v:=I J 0) rfl;have x2:=HXb2.out.at (k:=2) (v:=I J 0) rfl;have x3:=HXb2.out.at (k:=3) (v:=V po nf co) rfl;have x4:=HXb2.out.at (k:=4) (v:=V pg ng cg) rfl;clear hw' hf)
     |(go_at_call 136;(with_reducible refine (code_says B g f HCT.out HOK.out _ _ _ HW2.out (HSA.out _ HF2.out) (by have h1:=HBN.out;(try simp only[QA,QC,QN,QM]);omega)).mono ?_);rintro e w3 ⟨rfl,hw',hf⟩;have HW3:=hid hw';have HF3:=hid ((HF2.out).trans hf);clear y0 x0 x1 x2 x3 x4;have HBb3:=HBa _ HF3.out;have HXb3:=HXa _ HF3.out;have y0:=HBb3.out.at (k:=0) (v:=Qp (some ⟨g,0,none⟩)) rfl;have x0:=HXb3.out.at (k:=0) (v:=I J 112) rfl;have x1:=HXb3.out.at (k:=1) (v:=I J 0) rfl;have x2:=HXb3.out.at (k:=2) (v:=I J 0) rfl;have x3:=HXb3.out.at (k:=3) (v:=V po nf co) rfl;have x4:=HXb3.out.at (k:=4) (v:=V pg ng cg) rfl;clear hw' hf))
    go_meet
    exact ⟨HF3,hid (by have h:=HW3.out;simpa[preE]using h)⟩
   subst ht
   have dr:((r:Int)==112)=false:=by simpa using hr
   go_wp2_with (first
    |(go_at_call 169;(with_reducible refine (bytes_says B g _ [fm+2] _ _ (HW1.out.alloc _) (LT.one (fm+2) 1 HW1.out.lt) (by have h1:=HBN.out;(try simp only[QA,QC,QN,QM]);omega)).mono ?_);rintro e w2 ⟨rfl,hw',hf⟩;have HW2:=hid hw';have HF2:=hid ((HF1.out.alloc _).trans hf);clear y0 x0 x1 x2 x3 x4;have HBb2:=HBa _ HF2.out;have HXb2:=HXa _ HF2.out;have y0:=HBb2.out.at (k:=0) (v:=Qp (some ⟨g,0,none⟩)) rfl;have x0:=HXb2.out.at (k:=0) (v:=I J r) rfl;have x1:=HXb2.out.at (k:=1) (v:=I J 0) rfl;have x2:=HXb2.out.at (k:=2) (v:=I J 0) rfl;have x3:=HXb2.out.at (k:=3) (v:=V po nf co) rfl;have x4:=HXb2.out.at (k:=4) (v:=V pg ng cg) rfl;clear hw' hf)
    |(go_at_call 105;(with_reducible refine (u_says B g _ (0) _ HW2.out.base HW2.out (by have h1:=HBN.out;(try simp only[QA,QC,QN,QM]);omega)).mono ?_);rintro e w3 ⟨rfl,hw',hf⟩;have HW3:=hid hw';have HF3:=hid ((HF2.out).trans hf);clear y0 x0 x1 x2 x3 x4;have HBb3:=HBa _ HF3.out;have HXb3:=HXa _ HF3.out;have y0:=HBb3.out.at (k:=0) (v:=Qp (some ⟨g,0,none⟩)) rfl;have x0:=HXb3.out.at (k:=0) (v:=I J r) rfl;have x1:=HXb3.out.at (k:=1) (v:=I J 0) rfl;have x2:=HXb3.out.at (k:=2) (v:=I J 0) rfl;have x3:=HXb3.out.at (k:=3) (v:=V po nf co) rfl;have x4:=HXb3.out.at (k:=4) (v:=V pg ng cg) rfl;clear hw' hf)
    |(go_at_call 136;(with_reducible refine (code_says B g f HCT.out HOK.out _ _ _ HW3.out (HSA.out _ HF3.out) (by have h1:=HBN.out;(try simp only[QA,QC,QN,QM]);omega)).mono ?_);rintro e w4 ⟨rfl,hw',hf⟩;have HW4:=hid hw';have HF4:=hid ((HF3.out).trans hf);clear y0 x0 x1 x2 x3 x4;have HBb4:=HBa _ HF4.out;have HXb4:=HXa _ HF4.out;have y0:=HBb4.out.at (k:=0) (v:=Qp (some ⟨g,0,none⟩)) rfl;have x0:=HXb4.out.at (k:=0) (v:=I J r) rfl;have x1:=HXb4.out.at (k:=1) (v:=I J 0) rfl;have x2:=HXb4.out.at (k:=2) (v:=I J 0) rfl;have x3:=HXb4.out.at (k:=3) (v:=V po nf co) rfl;have x4:=HXb4.out.at (k:=4) (v:=V pg ng cg) rfl;clear hw' hf)
    |(go_at_call 169;(with_reducible refine (bytes_says B g _ [kd] _ _ (HW4.out.alloc _) (LT.one (kd) 1 HW4.out.lt) (by have h1:=HBN.out;(try simp only[QA,QC,QN,QM]);omega)).mono ?_);rintro e w5 ⟨rfl,hw',hf⟩;have HW5:=hid hw';have HF5:=hid ((HF4.out.alloc _).trans hf);clear y0 x0 x1 x2 x3 x4;have HBb5:=HBa _ HF5.out;have HXb5:=HXa _ HF5.out;have y0:=HBb5.out.at (k:=0) (v:=Qp (some ⟨g,0,none⟩)) rfl;have x0:=HXb5.out.at (k:=0) (v:=I J r) rfl;have x1:=HXb5.out.at (k:=1) (v:=I J 0) rfl;have x2:=HXb5.out.at (k:=2) (v:=I J 0) rfl;have x3:=HXb5.out.at (k:=3) (v:=V po nf co) rfl;have x4:=HXb5.out.at (k:=4) (v:=V pg ng cg) rfl;clear hw' hf))
   go_meet
   exact ⟨HF5,hid (by have h:=HW5.out;simpa[preE,hr]using h)⟩
  have dt:((t:Int)==0)=false:=by simpa using ht
  go_wp2_with (first
   |(go_at_call 169;(with_reducible refine (bytes_says B g _ [fm+2] _ _ (HW1.out.alloc _) (LT.one (fm+2) 1 HW1.out.lt) (by have h1:=HBN.out;(try simp only[QA,QC,QN,QM]);omega)).mono ?_);rintro e w2 ⟨rfl,hw',hf⟩;have HW2:=hid hw';have HF2:=hid ((HF1.out.alloc _).trans hf);clear y0 x0 x1 x2 x3 x4;have HBb2:=HBa _ HF2.out;have HXb2:=HXa _ HF2.out;have y0:=HBb2.out.at (k:=0) (v:=Qp (some ⟨g,0,none⟩)) rfl;have x0:=HXb2.out.at (k:=0) (v:=I J r) rfl;have x1:=HXb2.out.at (k:=1) (v:=I J 0) rfl;have x2:=HXb2.out.at (k:=2) (v:=I J t) rfl;have x3:=HXb2.out.at (k:=3) (v:=V po nf co) rfl;have x4:=HXb2.out.at (k:=4) (v:=V pg ng cg) rfl;clear hw' hf)
   |(go_at_call 105;(with_reducible refine (u_says B g _ (t) _ HW2.out.base HW2.out (by have h1:=HBN.out;(try simp only[QA,QC,QN,QM]);omega)).mono ?_);rintro e w3 ⟨rfl,hw',hf⟩;have HW3:=hid hw';have HF3:=hid ((HF2.out).trans hf);clear y0 x0 x1 x2 x3 x4;have HBb3:=HBa _ HF3.out;have HXb3:=HXa _ HF3.out;have y0:=HBb3.out.at (k:=0) (v:=Qp (some ⟨g,0,none⟩)) rfl;have x0:=HXb3.out.at (k:=0) (v:=I J r) rfl;have x1:=HXb3.out.at (k:=1) (v:=I J 0) rfl;have x2:=HXb3.out.at (k:=2) (v:=I J t) rfl;have x3:=HXb3.out.at (k:=3) (v:=V po nf co) rfl;have x4:=HXb3.out.at (k:=4) (v:=V pg ng cg) rfl;clear hw' hf)
   |(go_at_call 136;(with_reducible refine (code_says B g f HCT.out HOK.out _ _ _ HW3.out (HSA.out _ HF3.out) (by have h1:=HBN.out;(try simp only[QA,QC,QN,QM]);omega)).mono ?_);rintro e w4 ⟨rfl,hw',hf⟩;have HW4:=hid hw';have HF4:=hid ((HF3.out).trans hf);clear y0 x0 x1 x2 x3 x4;have HBb4:=HBa _ HF4.out;have HXb4:=HXa _ HF4.out;have y0:=HBb4.out.at (k:=0) (v:=Qp (some ⟨g,0,none⟩)) rfl;have x0:=HXb4.out.at (k:=0) (v:=I J r) rfl;have x1:=HXb4.out.at (k:=1) (v:=I J 0) rfl;have x2:=HXb4.out.at (k:=2) (v:=I J t) rfl;have x3:=HXb4.out.at (k:=3) (v:=V po nf co) rfl;have x4:=HXb4.out.at (k:=4) (v:=V pg ng cg) rfl;clear hw' hf)
   |(go_at_call 169;(with_reducible refine (bytes_says B g _ [kd] _ _ (HW4.out.alloc _) (LT.one (kd) 1 HW4.out.lt) (by have h1:=HBN.out;(try simp only[QA,QC,QN,QM]);omega)).mono ?_);rintro e w5 ⟨rfl,hw',hf⟩;have HW5:=hid hw';have HF5:=hid ((HF4.out.alloc _).trans hf);clear y0 x0 x1 x2 x3 x4;have HBb5:=HBa _ HF5.out;have HXb5:=HXa _ HF5.out;have y0:=HBb5.out.at (k:=0) (v:=Qp (some ⟨g,0,none⟩)) rfl;have x0:=HXb5.out.at (k:=0) (v:=I J r) rfl;have x1:=HXb5.out.at (k:=1) (v:=I J 0) rfl;have x2:=HXb5.out.at (k:=2) (v:=I J t) rfl;have x3:=HXb5.out.at (k:=3) (v:=V po nf co) rfl;have x4:=HXb5.out.at (k:=4) (v:=V pg ng cg) rfl;clear hw' hf))
  go_meet
  exact ⟨HF5,hid (by have h:=HW5.out;simpa[preE,ht]using h)⟩
 ·go_wp2_with (first
   |(go_at_call 169;(with_reducible refine (bytes_says B g _ [fm+1,kd] _ _ (HW1.out.alloc _) (LT.two (fm+1) (kd) 2 HW1.out.lt) (by have h1:=HBN.out;(try simp only[QA,QC,QN,QM]);omega)).mono ?_);rintro e w2 ⟨rfl,hw',hf⟩;have HW2:=hid hw';have HF2:=hid ((HF1.out.alloc _).trans hf);clear y0 x0 x1 x2 x3 x4;have HBb2:=HBa _ HF2.out;have HXb2:=HXa _ HF2.out;have y0:=HBb2.out.at (k:=0) (v:=Qp (some ⟨g,0,none⟩)) rfl;have x0:=HXb2.out.at (k:=0) (v:=I J r) rfl;have x1:=HXb2.out.at (k:=1) (v:=I J 1) rfl;have x2:=HXb2.out.at (k:=2) (v:=I J t) rfl;have x3:=HXb2.out.at (k:=3) (v:=V po nf co) rfl;have x4:=HXb2.out.at (k:=4) (v:=V pg ng cg) rfl;clear hw' hf))
  go_meet
  exact ⟨HF2,hid (by have h:=HW2.out;simpa[preE]using h)⟩
 go_wp2_with (first
  |(go_at_call 169;(with_reducible refine (bytes_says B g _ [fm+3,kd] _ _ (HW1.out.alloc _) (LT.two (fm+3) (kd) 2 HW1.out.lt) (by have h1:=HBN.out;(try simp only[QA,QC,QN,QM]);omega)).mono ?_);rintro e w2 ⟨rfl,hw',hf⟩;have HW2:=hid hw';have HF2:=hid ((HF1.out.alloc _).trans hf);clear y0 x0 x1 x2 x3 x4;have HBb2:=HBa _ HF2.out;have HXb2:=HXa _ HF2.out;have y0:=HBb2.out.at (k:=0) (v:=Qp (some ⟨g,0,none⟩)) rfl;have x0:=HXb2.out.at (k:=0) (v:=I J r) rfl;have x1:=HXb2.out.at (k:=1) (v:=I J 2) rfl;have x2:=HXb2.out.at (k:=2) (v:=I J t) rfl;have x3:=HXb2.out.at (k:=3) (v:=V po nf co) rfl;have x4:=HXb2.out.at (k:=4) (v:=V pg ng cg) rfl;clear hw' hf))
 go_meet
 exact ⟨HF2,hid (by have h:=HW2.out;simpa[preE]using h)⟩
end Go.Proofs.YtjgeedgphcjhoaaGreat
