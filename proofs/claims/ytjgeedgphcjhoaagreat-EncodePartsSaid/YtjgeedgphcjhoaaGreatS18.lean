/-
  WEl4, WList1, WHdr: merged, what the law does not reach left out (each text says what it holds where it lies in wip). No condition.
-/
import Derived.Test.YtjgeedgphcjhoaaGreatS17
import Derived.Deep.CutBlock
import Derived.Test.YtjgeedgphcjhoaaGreatS15
import Derived.Lib.FrozenHead
import Derived.Lib.SlBytesConst
import Derived.Test.YtjgeedgphcjhoaaGreatS01
set_option linter.unusedSimpArgs false
set_option linter.unusedVariables false
set_option maxRecDepth 100000
set_option maxHeartbeats 64000000
namespace Go.Proofs.YtjgeedgphcjhoaaGreat
open Go.RowKit
open Value renaming int → I,slice → V,bool → G,pointer → Qp
open IntKind renaming i64 → J
open Ending renaming returned → Qr
open Obj renaming cells → Qc
open _root_.Go.Proofs.Tryz renaming prog → QP
open Nat renaming le_refl → Ql,le_of_lt → Qo,le_trans → Qk,zero_le → Qz
open List renaming length_append → QA,length_cons → QC,length_nil → QN,length_map → QM,append_assoc → QS
open Below renaming refl → QB
open World renaming cell?_of_block → QW
open Lib renaming byteCells → QY
theorem flB_bytes:∀(l:List UInt8),flB l.length (fun i=>[l[i]?.getD 0])=l:=by
 intro l
 have key:∀n,n≤l.length→flB n (fun i=>[l[i]?.getD 0])=l.take n:=by
  intro n
  induction n with
  |zero=>intro _;rfl
  |succ n ih =>
   intro hn
   rw[flB,ih (by omega),List.take_add_one,List.getElem?_eq_getElem (show n<l.length by omega)]
   rfl
 rw[key l.length (Ql _),List.take_length]
theorem list_bytes (B g b L:Nat) (hL:L≤lo B g) (l:List UInt8) (hl:l.length≤100000) (p:Option Addr) (c:Nat) (w:World) (hy:YO L w p c l) (hbg:b≠g) (hb:CA b #[Qp (some ⟨g,0,none⟩)] 135 w) (bs:List UInt8) (hw:WR B g bs w) (hn:bs.length≤3100000000000) :
  Calls QP 200 #[Qp (some ⟨g,0,none⟩),V p l.length c,.func (.func 201) #[] #[Qp (some ⟨b,0,none⟩)]] w fun e w'=>e=Qr (.tuple #[])∧WR B g (bs++szL l) w'∧FR B g w w':=by
 have hfl:=flB_bytes l
 have key:∀(blk off:Nat),(l.length≠0→p=some ⟨blk,off,none⟩∧NW B g w blk)→(∀i,i<l.length→w.cell? ⟨blk,off+i,none⟩=some (.int .u8 ((l[i]?.getD 0).toNat:Nat)))→Calls QP 200 #[Qp (some ⟨g,0,none⟩),V p l.length c,.func (.func 201) #[] #[Qp (some ⟨b,0,none⟩)]] w fun e w'=>e=Qr (.tuple #[])∧WR B g (bs++szL l) w'∧FR B g w w':=by
  intro blk off h1 h2
  have:=wl_bytes B g 201 (fun _ _=>rfl) b (fun i=>[l[i]?.getD 0]) l.length blk off c p (fun i=>((l[i]?.getD 0).toNat:Nat)) w (by omega) h1 h2 (fun i hi bs' W hF hW hbl=>mc_byte B g b bs' (l[i]?.getD 0) W hbg (hb.fr hF (by decide) hbg) hW hbl) bs hw (by rw[hfl];omega)
  rw[hfl]at this
  exact this
 by_cases h0:l=[]
 ·subst h0
  exact key 0 0 (fun h=>absurd rfl h) (fun i hi=>absurd hi (Nat.not_lt_zero i))
 obtain ⟨g1,o1,e1,hg1,hc1⟩:=hy.2 h0
 refine key g1 o1 (fun _=>⟨e1,?_⟩) (fun i hi=>?_)
 ·have h2:=lo_g B g
  have h3:=lo_B B g
  have h4:=hw.1
  exact ⟨by omega,by omega,.inl (by omega)⟩
 have h5:=hc1 i l[i] (List.getElem?_eq_getElem hi)
 rw[List.getElem?_eq_getElem hi]
 exact h5
theorem data_P (B g L:Nat) (bs:List UInt8) (t:Int) (f:Fo) (po pb:Option Addr) (co cb:Nat) (l:List UInt8) (w:World) (hL:L≤lo B g) (hct:f.cnt<9223372036854775806) (hok:okE f) (hsz:f.siz≤61200000) (hs:SA L w (V po f.len co) f)
  (hl:l.length≤100000) (hy:YO L w pb cb l) (hw:WR B g bs w) (hn:bs.length≤3000000000000) :
  Calls QP 128 #[Qp (some ⟨g,0,none⟩),.agg #[I J 1,I J t,V po f.len co,V pb l.length cb]] w fun e w'=>e=Qr (.tuple #[])∧WR B g (bs++([1].map byI++szL l)) w'∧FR B g w w':=by
 have hB:=hw.1
 have hLw:L≤w.heap.size:=Qk hL (Qk (lo_B B g) hB)
 have hgl:=hw.lt
 have hb1:=CA.new w #[Qp (some ⟨g,0,none⟩)] 135
 have hb1':=hb1.alloc (Qc #[I J 1,I J t,V po f.len co,V pb l.length cb] 64)
 have hb2:=CA.new (w.alloc (Qc #[Qp (some ⟨g,0,none⟩)] 135)) #[I J 1,I J t,V po f.len co,V pb l.length cb] 64
 rw[size_al]at hb2
 have HF0:=hid (((FR.refl B g w).alloc (Qc #[Qp (some ⟨g,0,none⟩)] 135)).alloc (Qc #[I J 1,I J t,V po f.len co,V pb l.length cb] 64))
 have HB0:=hid hb1'
 have HX0:=hid hb2
 have HW0:=hid ((hw.alloc (Qc #[Qp (some ⟨g,0,none⟩)] 135)).alloc (Qc #[I J 1,I J t,V po f.len co,V pb l.length cb] 64))
 have HNB:=hid (show w.heap.size≠g by omega)
 have HNX:=hid (show w.heap.size+1≠g by omega)
 have HCT:=hid hct
 have HOK:=hid hok
 have HSA:=hid (fun (W:World) (h:FR B g w W)=>SA.mono (SA.below hs ((h.belowL hB).mono hL)) hL)
 have HLS:=hid (fun (bs:List UInt8) (W:World) (h:FR B g w W) (hb:CA w.heap.size #[Qp (some ⟨g,0,none⟩)] 135 W) (hW:WR B g bs W) (hn:bs.length≤3100000000000)=>list_bytes B g w.heap.size L hL l hl pb cb W (hy.below ((h.belowL hB).mono hL)) (by omega) hb bs hW hn)
 have hef:=enc_siz f hok
 have HN0:=hid (show (bs).length+([1]:List Int).length≤140737488355000 by
  have h1:=hn
  have h2:=hsz
  have h3:=hef
  (try simp only[QA,QC,QN,QM])
  omega)
 have HN1:=hid (show (bs++List.map byI [1]).length+0≤3100000000000 by
  have h1:=hn
  have h2:=hsz
  have h3:=hef
  (try simp only[QA,QC,QN,QM])
  omega)
 have hmf:∀(fn:Fn) (first cap:Array Value) (w:World),(Instr.makeFunc fn first cap).run QP w=.ok (.func fn first cap) w:=fun _ _ _ _=>rfl
 clear hb1 hb1' hb2 hw hn hct hok hsz hs hl hy hL hB hLw hgl hef
 generalize f.len=nf at *
 generalize hnb:l.length=nb at *
 clear hnb
 go_enter Tryz.func128,Tryz.ntmps128
 go_upto_block 0 with fail
 generalize (w.alloc (Qc #[Qp (some ⟨g,0,none⟩)] 135)).alloc (Qc #[I J 1,I J t,V po nf co,V pb nb cb] 64)=w0 at *
 generalize w.heap.size+1=be at *
 generalize w.heap.size=bx at *
 have y0:=HB0.out.at (k:=0) (v:=Qp (some ⟨g,0,none⟩)) rfl
 have x0:=HX0.out.at (k:=0) (v:=I J 1) rfl
 have x1:=HX0.out.at (k:=1) (v:=I J t) rfl
 have x2:=HX0.out.at (k:=2) (v:=V po nf co) rfl
 have x3:=HX0.out.at (k:=3) (v:=V pb nb cb) rfl
 go_wp2_with (first
  |(go_at_call 169;(with_reducible refine (bytes_says B g _ [1] _ _ (HW0.out.alloc _) (LT.one (1) 1 HW0.out.lt) HN0.out).mono ?_);rintro e w1 ⟨rfl,hw',hf⟩;have HW1:=hid hw';have HF1:=hid ((HF0.out.alloc _).trans hf);have HB1:=hid ((HB0.out.alloc _).fr hf (by decide) HNB.out);have HX1:=hid ((HX0.out.alloc _).fr hf (by decide) HNX.out);clear y0 x0 x1 x2 x3;have y0:=HB1.out.at (k:=0) (v:=Qp (some ⟨g,0,none⟩)) rfl;have x0:=HX1.out.at (k:=0) (v:=I J 1) rfl;have x1:=HX1.out.at (k:=1) (v:=I J t) rfl;have x2:=HX1.out.at (k:=2) (v:=V po nf co) rfl;have x3:=HX1.out.at (k:=3) (v:=V pb nb cb) rfl;clear hw' hf)
  |(go_at_call 200;(with_reducible refine (HLS.out _ _ HF1.out HB1.out HW1.out (by have:=HN1.out;omega)).mono ?_);rintro e w2 ⟨rfl,hw',hf⟩;have HW2:=hid hw';have HF2:=hid ((HF1.out).trans hf);have HB2:=hid ((HB1.out).fr hf (by decide) HNB.out);have HX2:=hid ((HX1.out).fr hf (by decide) HNX.out);clear y0 x0 x1 x2 x3;have y0:=HB2.out.at (k:=0) (v:=Qp (some ⟨g,0,none⟩)) rfl;have x0:=HX2.out.at (k:=0) (v:=I J 1) rfl;have x1:=HX2.out.at (k:=1) (v:=I J t) rfl;have x2:=HX2.out.at (k:=2) (v:=V po nf co) rfl;have x3:=HX2.out.at (k:=3) (v:=V pb nb cb) rfl;clear hw' hf))
 (first|go_end0|refine bodyPost_ret (results_none rfl _ _ _) rfl ?_)
 refine ⟨rfl,?_,HF2.out⟩
 have:=HW2.out
 simpa using this
theorem data_Z (B g L:Nat) (bs:List UInt8) (m:Int) (f:Fo) (po pb:Option Addr) (co cb:Nat) (l:List UInt8) (w:World) (hm:m≠1) (hL:L≤lo B g) (hct:f.cnt<9223372036854775806) (hok:okE f) (hsz:f.siz≤61200000) (hs:SA L w (V po f.len co) f)
  (hl:l.length≤100000) (hy:YO L w pb cb l) (hw:WR B g bs w) (hn:bs.length≤3000000000000) :
  Calls QP 128 #[Qp (some ⟨g,0,none⟩),.agg #[I J m,I J 0,V po f.len co,V pb l.length cb]] w fun e w'=>e=Qr (.tuple #[])∧WR B g (bs++([0].map byI++(f.enc++[11])++szL l)) w'∧FR B g w w':=by
 have hB:=hw.1
 have hLw:L≤w.heap.size:=Qk hL (Qk (lo_B B g) hB)
 have hgl:=hw.lt
 have hb1:=CA.new w #[Qp (some ⟨g,0,none⟩)] 135
 have hb1':=hb1.alloc (Qc #[I J m,I J 0,V po f.len co,V pb l.length cb] 64)
 have hb2:=CA.new (w.alloc (Qc #[Qp (some ⟨g,0,none⟩)] 135)) #[I J m,I J 0,V po f.len co,V pb l.length cb] 64
 rw[size_al]at hb2
 have HF0:=hid (((FR.refl B g w).alloc (Qc #[Qp (some ⟨g,0,none⟩)] 135)).alloc (Qc #[I J m,I J 0,V po f.len co,V pb l.length cb] 64))
 have HB0:=hid hb1'
 have HX0:=hid hb2
 have HW0:=hid ((hw.alloc (Qc #[Qp (some ⟨g,0,none⟩)] 135)).alloc (Qc #[I J m,I J 0,V po f.len co,V pb l.length cb] 64))
 have HNB:=hid (show w.heap.size≠g by omega)
 have HNX:=hid (show w.heap.size+1≠g by omega)
 have HCT:=hid hct
 have HOK:=hid hok
 have HSA:=hid (fun (W:World) (h:FR B g w W)=>SA.mono (SA.below hs ((h.belowL hB).mono hL)) hL)
 have HLS:=hid (fun (bs:List UInt8) (W:World) (h:FR B g w W) (hb:CA w.heap.size #[Qp (some ⟨g,0,none⟩)] 135 W) (hW:WR B g bs W) (hn:bs.length≤3100000000000)=>list_bytes B g w.heap.size L hL l hl pb cb W (hy.below ((h.belowL hB).mono hL)) (by omega) hb bs hW hn)
 have hef:=enc_siz f hok
 have HN0:=hid (show (bs).length+([0]:List Int).length≤140737488355000 by
  have h1:=hn
  have h2:=hsz
  have h3:=hef
  (try simp only[QA,QC,QN,QM])
  omega)
 have HN1:=hid (show (bs++List.map byI [0]).length+20+f.siz≤140737488355000 by
  have h1:=hn
  have h2:=hsz
  have h3:=hef
  (try simp only[QA,QC,QN,QM])
  omega)
 have HN2:=hid (show (bs++List.map byI [0]++(f.enc++[11])).length+0≤3100000000000 by
  have h1:=hn
  have h2:=hsz
  have h3:=hef
  (try simp only[QA,QC,QN,QM])
  omega)
 have dm:((m:Int)==1)=false:=by simpa using hm
 have hmf:∀(fn:Fn) (first cap:Array Value) (w:World),(Instr.makeFunc fn first cap).run QP w=.ok (.func fn first cap) w:=fun _ _ _ _=>rfl
 clear hb1 hb1' hb2 hw hn hct hok hsz hs hl hy hL hB hLw hgl hef hm
 generalize f.len=nf at *
 generalize hnb:l.length=nb at *
 clear hnb
 go_enter Tryz.func128,Tryz.ntmps128
 go_upto_block 0 with fail
 generalize (w.alloc (Qc #[Qp (some ⟨g,0,none⟩)] 135)).alloc (Qc #[I J m,I J 0,V po nf co,V pb nb cb] 64)=w0 at *
 generalize w.heap.size+1=be at *
 generalize w.heap.size=bx at *
 have y0:=HB0.out.at (k:=0) (v:=Qp (some ⟨g,0,none⟩)) rfl
 have x0:=HX0.out.at (k:=0) (v:=I J m) rfl
 have x1:=HX0.out.at (k:=1) (v:=I J 0) rfl
 have x2:=HX0.out.at (k:=2) (v:=V po nf co) rfl
 have x3:=HX0.out.at (k:=3) (v:=V pb nb cb) rfl
 go_wp2_with (first
  |(go_at_call 169;(with_reducible refine (bytes_says B g _ [0] _ _ (HW0.out.alloc _) (LT.one (0) 1 HW0.out.lt) HN0.out).mono ?_);rintro e w1 ⟨rfl,hw',hf⟩;have HW1:=hid hw';have HF1:=hid ((HF0.out.alloc _).trans hf);have HB1:=hid ((HB0.out.alloc _).fr hf (by decide) HNB.out);have HX1:=hid ((HX0.out.alloc _).fr hf (by decide) HNX.out);clear y0 x0 x1 x2 x3;have y0:=HB1.out.at (k:=0) (v:=Qp (some ⟨g,0,none⟩)) rfl;have x0:=HX1.out.at (k:=0) (v:=I J m) rfl;have x1:=HX1.out.at (k:=1) (v:=I J 0) rfl;have x2:=HX1.out.at (k:=2) (v:=V po nf co) rfl;have x3:=HX1.out.at (k:=3) (v:=V pb nb cb) rfl;clear hw' hf)
  |(go_at_call 136;(with_reducible refine (code_says B g f HCT.out HOK.out _ _ _ HW1.out (HSA.out _ HF1.out) HN1.out).mono ?_);rintro e w2 ⟨rfl,hw',hf⟩;have HW2:=hid hw';have HF2:=hid ((HF1.out).trans hf);have HB2:=hid ((HB1.out).fr hf (by decide) HNB.out);have HX2:=hid ((HX1.out).fr hf (by decide) HNX.out);clear y0 x0 x1 x2 x3;have y0:=HB2.out.at (k:=0) (v:=Qp (some ⟨g,0,none⟩)) rfl;have x0:=HX2.out.at (k:=0) (v:=I J m) rfl;have x1:=HX2.out.at (k:=1) (v:=I J 0) rfl;have x2:=HX2.out.at (k:=2) (v:=V po nf co) rfl;have x3:=HX2.out.at (k:=3) (v:=V pb nb cb) rfl;clear hw' hf)
  |(go_at_call 200;(with_reducible refine (HLS.out _ _ HF2.out HB2.out HW2.out (by have:=HN2.out;omega)).mono ?_);rintro e w3 ⟨rfl,hw',hf⟩;have HW3:=hid hw';have HF3:=hid ((HF2.out).trans hf);have HB3:=hid ((HB2.out).fr hf (by decide) HNB.out);have HX3:=hid ((HX2.out).fr hf (by decide) HNX.out);clear y0 x0 x1 x2 x3;have y0:=HB3.out.at (k:=0) (v:=Qp (some ⟨g,0,none⟩)) rfl;have x0:=HX3.out.at (k:=0) (v:=I J m) rfl;have x1:=HX3.out.at (k:=1) (v:=I J 0) rfl;have x2:=HX3.out.at (k:=2) (v:=V po nf co) rfl;have x3:=HX3.out.at (k:=3) (v:=V pb nb cb) rfl;clear hw' hf))
 (first|go_end0|refine bodyPost_ret (results_none rfl _ _ _) rfl ?_)
 refine ⟨rfl,?_,HF3.out⟩
 have:=HW3.out
 simpa using this
theorem data_T (B g L:Nat) (bs:List UInt8) (m:Int) (t:Int) (f:Fo) (po pb:Option Addr) (co cb:Nat) (l:List UInt8) (w:World) (hm:m≠1) (ht:t≠0) (hL:L≤lo B g) (hct:f.cnt<9223372036854775806) (hok:okE f) (hsz:f.siz≤61200000) (hs:SA L w (V po f.len co) f)
  (hl:l.length≤100000) (hy:YO L w pb cb l) (hw:WR B g bs w) (hn:bs.length≤3000000000000) :
  Calls QP 128 #[Qp (some ⟨g,0,none⟩),.agg #[I J m,I J t,V po f.len co,V pb l.length cb]] w fun e w'=>e=Qr (.tuple #[])∧WR B g (bs++([2].map byI++uI (t)++(f.enc++[11])++szL l)) w'∧FR B g w w':=by
 have hB:=hw.1
 have hLw:L≤w.heap.size:=Qk hL (Qk (lo_B B g) hB)
 have hgl:=hw.lt
 have hb1:=CA.new w #[Qp (some ⟨g,0,none⟩)] 135
 have hb1':=hb1.alloc (Qc #[I J m,I J t,V po f.len co,V pb l.length cb] 64)
 have hb2:=CA.new (w.alloc (Qc #[Qp (some ⟨g,0,none⟩)] 135)) #[I J m,I J t,V po f.len co,V pb l.length cb] 64
 rw[size_al]at hb2
 have HF0:=hid (((FR.refl B g w).alloc (Qc #[Qp (some ⟨g,0,none⟩)] 135)).alloc (Qc #[I J m,I J t,V po f.len co,V pb l.length cb] 64))
 have HB0:=hid hb1'
 have HX0:=hid hb2
 have HW0:=hid ((hw.alloc (Qc #[Qp (some ⟨g,0,none⟩)] 135)).alloc (Qc #[I J m,I J t,V po f.len co,V pb l.length cb] 64))
 have HNB:=hid (show w.heap.size≠g by omega)
 have HNX:=hid (show w.heap.size+1≠g by omega)
 have HCT:=hid hct
 have HOK:=hid hok
 have HSA:=hid (fun (W:World) (h:FR B g w W)=>SA.mono (SA.below hs ((h.belowL hB).mono hL)) hL)
 have HLS:=hid (fun (bs:List UInt8) (W:World) (h:FR B g w W) (hb:CA w.heap.size #[Qp (some ⟨g,0,none⟩)] 135 W) (hW:WR B g bs W) (hn:bs.length≤3100000000000)=>list_bytes B g w.heap.size L hL l hl pb cb W (hy.below ((h.belowL hB).mono hL)) (by omega) hb bs hW hn)
 have hef:=enc_siz f hok
 have HN0:=hid (show (bs).length+([2]:List Int).length≤140737488355000 by
  have h1:=hn
  have h2:=hsz
  have h3:=hef
  have h4:=uI_len t
  (try simp only[QA,QC,QN,QM])
  omega)
 have HN1:=hid (show (bs++List.map byI [2]).length+10≤140737488355000 by
  have h1:=hn
  have h2:=hsz
  have h3:=hef
  have h4:=uI_len t
  (try simp only[QA,QC,QN,QM])
  omega)
 have HN2:=hid (show (bs++List.map byI [2]++uI (t)).length+20+f.siz≤140737488355000 by
  have h1:=hn
  have h2:=hsz
  have h3:=hef
  have h4:=uI_len t
  (try simp only[QA,QC,QN,QM])
  omega)
 have HN3:=hid (show (bs++List.map byI [2]++uI (t)++(f.enc++[11])).length+0≤3100000000000 by
  have h1:=hn
  have h2:=hsz
  have h3:=hef
  have h4:=uI_len t
  (try simp only[QA,QC,QN,QM])
  omega)
 have dm:((m:Int)==1)=false:=by simpa using hm
 have dt:((t:Int)==0)=false:=by simpa using ht
 have hmf:∀(fn:Fn) (first cap:Array Value) (w:World),(Instr.makeFunc fn first cap).run QP w=.ok (.func fn first cap) w:=fun _ _ _ _=>rfl
 clear hb1 hb1' hb2 hw hn hct hok hsz hs hl hy hL hB hLw hgl hef hm ht
 generalize f.len=nf at *
 generalize hnb:l.length=nb at *
 clear hnb
 go_enter Tryz.func128,Tryz.ntmps128
 go_upto_block 0 with fail
 generalize (w.alloc (Qc #[Qp (some ⟨g,0,none⟩)] 135)).alloc (Qc #[I J m,I J t,V po nf co,V pb nb cb] 64)=w0 at *
 generalize w.heap.size+1=be at *
 generalize w.heap.size=bx at *
 have y0:=HB0.out.at (k:=0) (v:=Qp (some ⟨g,0,none⟩)) rfl
 have x0:=HX0.out.at (k:=0) (v:=I J m) rfl
 have x1:=HX0.out.at (k:=1) (v:=I J t) rfl
 have x2:=HX0.out.at (k:=2) (v:=V po nf co) rfl
 have x3:=HX0.out.at (k:=3) (v:=V pb nb cb) rfl
 go_wp2_with (first
  |(go_at_call 169;(with_reducible refine (bytes_says B g _ [2] _ _ (HW0.out.alloc _) (LT.one (2) 1 HW0.out.lt) HN0.out).mono ?_);rintro e w1 ⟨rfl,hw',hf⟩;have HW1:=hid hw';have HF1:=hid ((HF0.out.alloc _).trans hf);have HB1:=hid ((HB0.out.alloc _).fr hf (by decide) HNB.out);have HX1:=hid ((HX0.out.alloc _).fr hf (by decide) HNX.out);clear y0 x0 x1 x2 x3;have y0:=HB1.out.at (k:=0) (v:=Qp (some ⟨g,0,none⟩)) rfl;have x0:=HX1.out.at (k:=0) (v:=I J m) rfl;have x1:=HX1.out.at (k:=1) (v:=I J t) rfl;have x2:=HX1.out.at (k:=2) (v:=V po nf co) rfl;have x3:=HX1.out.at (k:=3) (v:=V pb nb cb) rfl;clear hw' hf)
  |(go_at_call 105;(with_reducible refine (u_says B g _ (t) _ HW1.out.base HW1.out HN1.out).mono ?_);rintro e w2 ⟨rfl,hw',hf⟩;have HW2:=hid hw';have HF2:=hid ((HF1.out).trans hf);have HB2:=hid ((HB1.out).fr hf (by decide) HNB.out);have HX2:=hid ((HX1.out).fr hf (by decide) HNX.out);clear y0 x0 x1 x2 x3;have y0:=HB2.out.at (k:=0) (v:=Qp (some ⟨g,0,none⟩)) rfl;have x0:=HX2.out.at (k:=0) (v:=I J m) rfl;have x1:=HX2.out.at (k:=1) (v:=I J t) rfl;have x2:=HX2.out.at (k:=2) (v:=V po nf co) rfl;have x3:=HX2.out.at (k:=3) (v:=V pb nb cb) rfl;clear hw' hf)
  |(go_at_call 136;(with_reducible refine (code_says B g f HCT.out HOK.out _ _ _ HW2.out (HSA.out _ HF2.out) HN2.out).mono ?_);rintro e w3 ⟨rfl,hw',hf⟩;have HW3:=hid hw';have HF3:=hid ((HF2.out).trans hf);have HB3:=hid ((HB2.out).fr hf (by decide) HNB.out);have HX3:=hid ((HX2.out).fr hf (by decide) HNX.out);clear y0 x0 x1 x2 x3;have y0:=HB3.out.at (k:=0) (v:=Qp (some ⟨g,0,none⟩)) rfl;have x0:=HX3.out.at (k:=0) (v:=I J m) rfl;have x1:=HX3.out.at (k:=1) (v:=I J t) rfl;have x2:=HX3.out.at (k:=2) (v:=V po nf co) rfl;have x3:=HX3.out.at (k:=3) (v:=V pb nb cb) rfl;clear hw' hf)
  |(go_at_call 200;(with_reducible refine (HLS.out _ _ HF3.out HB3.out HW3.out (by have:=HN3.out;omega)).mono ?_);rintro e w4 ⟨rfl,hw',hf⟩;have HW4:=hid hw';have HF4:=hid ((HF3.out).trans hf);have HB4:=hid ((HB3.out).fr hf (by decide) HNB.out);have HX4:=hid ((HX3.out).fr hf (by decide) HNX.out);clear y0 x0 x1 x2 x3;have y0:=HB4.out.at (k:=0) (v:=Qp (some ⟨g,0,none⟩)) rfl;have x0:=HX4.out.at (k:=0) (v:=I J m) rfl;have x1:=HX4.out.at (k:=1) (v:=I J t) rfl;have x2:=HX4.out.at (k:=2) (v:=V po nf co) rfl;have x3:=HX4.out.at (k:=3) (v:=V pb nb cb) rfl;clear hw' hf))
 (first|go_end0|refine bodyPost_ret (results_none rfl _ _ _) rfl ?_)
 refine ⟨rfl,?_,HF4.out⟩
 have:=HW4.out
 simpa using this
theorem mc_Elm (B g b:Nat) (bs:List UInt8) (r m t:Int) (f:Fo) (po pg:Option Addr) (co cg ng:Nat) (X:List UInt8) (w:World) (hC:∀W,FR B g w W→WR B g bs W→Calls QP 122 #[Qp (some ⟨g,0,none⟩),.agg #[I J r,I J m,I J t,V po f.len co,V pg ng cg]] W fun e w'=>e=Qr (.tuple #[])∧WR B g (bs++X) w'∧FR B g W w') (hbg:b≠g) (hb:CA b #[Qp (some ⟨g,0,none⟩)] 135 w) (hw:WR B g bs w) (hn:bs.length≤3000000000000) :
  Calls QP 121 #[.agg #[I J r,I J m,I J t,V po f.len co,V pg ng cg],Qp (some ⟨b,0,none⟩)] w fun e w'=>e=Qr (.tuple #[])∧WR B g (bs++X) w'∧FR B g w w':=by
 have HX0:=hid (CA.new w #[I J r,I J m,I J t,V po f.len co,V pg ng cg] 62)
 have HB0:=hid (hb.alloc (Qc #[I J r,I J m,I J t,V po f.len co,V pg ng cg] 62))
 have HF0:=hid ((FR.refl B g w).alloc (Qc #[I J r,I J m,I J t,V po f.len co,V pg ng cg] 62))
 have hba:=(QB w.heap.size w).alloc (Ql _) (Qc #[I J r,I J m,I J t,V po f.len co,V pg ng cg] 62)
 have HC:=hid (hC (w.alloc (Qc #[I J r,I J m,I J t,V po f.len co,V pg ng cg] 62)) ((FR.refl B g w).alloc _) (hw.alloc (Qc #[I J r,I J m,I J t,V po f.len co,V pg ng cg] 62)))
 clear hb hw hn hba hC
 go_enter Tryz.func121,Tryz.ntmps121
 go_upto_region 1 with fail
 generalize w.alloc (Qc #[I J r,I J m,I J t,V po f.len co,V pg ng cg] 62)=w0 at *
 generalize w.heap.size=gx at *
 have y0:=HB0.out.at (k:=0) (v:=Qp (some ⟨g,0,none⟩)) rfl
 have x0:=HX0.out.at (k:=0) (v:=I J r) rfl
 have x1:=HX0.out.at (k:=1) (v:=I J m) rfl
 have x2:=HX0.out.at (k:=2) (v:=I J t) rfl
 have x3:=HX0.out.at (k:=3) (v:=V po f.len co) rfl
 have x4:=HX0.out.at (k:=4) (v:=V pg ng cg) rfl
 go_wp2_with (go_at_call 122;(with_reducible refine HC.out.mono ?_);rintro e w1 ⟨rfl,hw',hf⟩;have HW1:=hid hw';have HF1:=hid (HF0.out.trans hf);clear hw' hf)
 (first|go_end0|refine bodyPost_ret (results_none rfl _ _ _) rfl ?_)
 exact ⟨rfl,HW1.out,HF1.out⟩
theorem mc_Dat (B g b:Nat) (bs:List UInt8) (m t:Int) (f:Fo) (po pb:Option Addr) (co cb nb:Nat) (X:List UInt8) (w:World) (hC:∀W,FR B g w W→WR B g bs W→Calls QP 128 #[Qp (some ⟨g,0,none⟩),.agg #[I J m,I J t,V po f.len co,V pb nb cb]] W fun e w'=>e=Qr (.tuple #[])∧WR B g (bs++X) w'∧FR B g W w') (hbg:b≠g) (hb:CA b #[Qp (some ⟨g,0,none⟩)] 135 w) (hw:WR B g bs w) (hn:bs.length≤3000000000000) :
  Calls QP 127 #[.agg #[I J m,I J t,V po f.len co,V pb nb cb],Qp (some ⟨b,0,none⟩)] w fun e w'=>e=Qr (.tuple #[])∧WR B g (bs++X) w'∧FR B g w w':=by
 have HX0:=hid (CA.new w #[I J m,I J t,V po f.len co,V pb nb cb] 64)
 have HB0:=hid (hb.alloc (Qc #[I J m,I J t,V po f.len co,V pb nb cb] 64))
 have HF0:=hid ((FR.refl B g w).alloc (Qc #[I J m,I J t,V po f.len co,V pb nb cb] 64))
 have hba:=(QB w.heap.size w).alloc (Ql _) (Qc #[I J m,I J t,V po f.len co,V pb nb cb] 64)
 have HC:=hid (hC (w.alloc (Qc #[I J m,I J t,V po f.len co,V pb nb cb] 64)) ((FR.refl B g w).alloc _) (hw.alloc (Qc #[I J m,I J t,V po f.len co,V pb nb cb] 64)))
 clear hb hw hn hba hC
 go_enter Tryz.func127,Tryz.ntmps127
 go_upto_region 1 with fail
 generalize w.alloc (Qc #[I J m,I J t,V po f.len co,V pb nb cb] 64)=w0 at *
 generalize w.heap.size=gx at *
 have y0:=HB0.out.at (k:=0) (v:=Qp (some ⟨g,0,none⟩)) rfl
 have x0:=HX0.out.at (k:=0) (v:=I J m) rfl
 have x1:=HX0.out.at (k:=1) (v:=I J t) rfl
 have x2:=HX0.out.at (k:=2) (v:=V po f.len co) rfl
 have x3:=HX0.out.at (k:=3) (v:=V pb nb cb) rfl
 go_wp2_with (go_at_call 128;(with_reducible refine HC.out.mono ?_);rintro e w1 ⟨rfl,hw',hf⟩;have HW1:=hid hw';have HF1:=hid (HF0.out.trans hf);clear hw' hf)
 (first|go_end0|refine bodyPost_ret (results_none rfl _ _ _) rfl ?_)
 exact ⟨rfl,HW1.out,HF1.out⟩
theorem wl_Typ (B g k:Nat) (eg:∀args w,(callFunc k args).run QP w=.ok (.enter k args) w) (b:Nat) (P:Nat→List UInt8) (n blk off c:Nat) (ad:Option Addr) (p0:Nat→Option Addr) (n0:Nat→Nat) (c0:Nat→Nat) (p1:Nat→Option Addr) (n1:Nat→Nat) (c1:Nat→Nat) (w:World) (hn62:n<9223372036854775807)
  (had:n≠0→ad=some ⟨blk,off,none⟩∧NW B g w blk) (hx:∀i,i<n→w.cell? ⟨blk,off+i*2,none⟩=some (V (p0 i) (n0 i) (c0 i))∧w.cell? ⟨blk,off+i*2+1,none⟩=some (V (p1 i) (n1 i) (c1 i)))
  (hP:∀i,i<n→∀bs W,FR B g w W→WR B g bs W→bs.length≤3000000000000→Calls QP k #[.agg #[V (p0 i) (n0 i) (c0 i),V (p1 i) (n1 i) (c1 i)],Qp (some ⟨b,0,none⟩)] W fun e w'=>e=Qr (.tuple #[])∧WR B g (bs++P i) w'∧FR B g W w')
  (bs:List UInt8) (hw:WR B g bs w) (hlen:bs.length+10+(flB n P).length≤3000000000000) :
  Calls QP 168 #[Qp (some ⟨g,0,none⟩),V ad n c,.func (.func k) #[] #[Qp (some ⟨b,0,none⟩)]] w fun e w'=>e=Qr (.tuple #[])∧WR B g (bs++(uI n++flB n P)) w'∧FR B g w w':=by
 have HAD:=hid had
 have HX:=hid hx
 have HP:=hid hP
 have HW:=hid hw
 have HLN:=hid hlen
 have HUL:=hid (uI_len n)
 have nn62:(n:Int)<9223372036854775807:=by omega
 have HN1:=hid (show bs.length+10≤140737488355000 by omega)
 clear had hx hP hw hlen hn62
 go_enter Tryz.func168,Tryz.ntmps168
 go_upto_region 1 with (go_at_call 105;(with_reducible refine (u_says B g bs n _ HW.out.base HW.out HN1.out).mono ?_);rintro e w1 ⟨rfl,hw1,hf1⟩;have HW1:=hid hw1;have HF1:=hid hf1;clear hw1 hf1)
 go_wp2
 go_loopw [14] (fun vi wr=>∃i:Nat,i≤n∧vi=I J i∧Hid (WR B g (bs++(uI n++flB i P)) wr)∧Hid (FR B g w wr)) (fun vi _=>n-(intOf vi).toNat)
 case atStart=>exact ⟨0,Qz _,rfl,by simpa[flB]using HW1,HF1⟩
 obtain ⟨i,hi,rfl,HR,HF⟩:=hrel
 by_cases hlt:i<n
 ·obtain ⟨z0,z1⟩:=HX.out i hlt
  obtain ⟨hpe,hnw⟩:=HAD.out (by omega)
  subst hpe
  have x0:=(QW (a:=⟨blk,off+i*2,none⟩) (HF.out.block blk hnw)).trans z0
  have x1:=(QW (a:=⟨blk,off+i*2+1,none⟩) (HF.out.block blk hnw)).trans z1
  have HLE:=hid (show (bs++(uI n++flB i P)).length≤3000000000000 by
   have h1:=HLN.out
   have h2:=flB_le P (Qo hlt)
   have h3:=HUL.out
   simp only[QA]
   omega)
  have HNX:=hid (show bs++(uI n++flB (i+1) P)=(bs++(uI n++flB i P))++P i by rw[flB];simp only[QS])
  have HKX:=fun (o:Obj)=>hid (HP.out i hlt _ (wr.alloc o) (HF.out.alloc o) (HR.out.alloc o) HLE.out)
  generalize P i=Pi at *
  generalize p0 i=q0 at *
  generalize n0 i=m0 at *
  generalize c0 i=d0 at *
  generalize p1 i=q1 at *
  generalize n1 i=m1 at *
  generalize c1 i=d1 at *
  clear z0 z1 hnw hi
  go_wp2_with (go_at_fn k;(with_reducible refine (HKX _).out.mono ?_);rintro e w2 ⟨rfl,hw2,hf2⟩;have HW2:=hid hw2;have HF2:=hid ((HF.out.alloc _).trans hf2);clear hw2 hf2)
  go_roundw
  case rel =>
   refine ⟨i+1,hlt,by go_num,?_,HF2⟩
   rw[HNX.out]
   exact HW2
  case measure=>simp[intOf];omega
 obtain rfl:i=n:=by omega
 go_wp2
 (first|go_end0|refine bodyPost_ret (results_none rfl _ _ _) rfl ?_)
 exact ⟨rfl,HR.out,HF.out⟩
theorem wl_Fun (B g k:Nat) (eg:∀args w,(callFunc k args).run QP w=.ok (.enter k args) w) (b:Nat) (P:Nat→List UInt8) (n blk off c:Nat) (ad:Option Addr) (t0:Nat→Int) (p1:Nat→Option Addr) (n1:Nat→Nat) (c1:Nat→Nat) (p2:Nat→Option Addr) (n2:Nat→Nat) (c2:Nat→Nat) (w:World) (hn62:n<9223372036854775807)
  (had:n≠0→ad=some ⟨blk,off,none⟩∧NW B g w blk) (hx:∀i,i<n→w.cell? ⟨blk,off+i*3,none⟩=some (I J (t0 i))∧w.cell? ⟨blk,off+i*3+1,none⟩=some (V (p1 i) (n1 i) (c1 i))∧w.cell? ⟨blk,off+i*3+2,none⟩=some (V (p2 i) (n2 i) (c2 i)))
  (hP:∀i,i<n→∀bs W,FR B g w W→WR B g bs W→bs.length≤3000000000000→Calls QP k #[.agg #[I J (t0 i),V (p1 i) (n1 i) (c1 i),V (p2 i) (n2 i) (c2 i)],Qp (some ⟨b,0,none⟩)] W fun e w'=>e=Qr (.tuple #[])∧WR B g (bs++P i) w'∧FR B g W w')
  (bs:List UInt8) (hw:WR B g bs w) (hlen:bs.length+10+(flB n P).length≤3000000000000) :
  Calls QP 176 #[Qp (some ⟨g,0,none⟩),V ad n c,.func (.func k) #[] #[Qp (some ⟨b,0,none⟩)]] w fun e w'=>e=Qr (.tuple #[])∧WR B g (bs++(uI n++flB n P)) w'∧FR B g w w':=by
 have HAD:=hid had
 have HX:=hid hx
 have HP:=hid hP
 have HW:=hid hw
 have HLN:=hid hlen
 have HUL:=hid (uI_len n)
 have nn62:(n:Int)<9223372036854775807:=by omega
 have HN1:=hid (show bs.length+10≤140737488355000 by omega)
 clear had hx hP hw hlen hn62
 go_enter Tryz.func176,Tryz.ntmps176
 go_upto_region 1 with (go_at_call 105;(with_reducible refine (u_says B g bs n _ HW.out.base HW.out HN1.out).mono ?_);rintro e w1 ⟨rfl,hw1,hf1⟩;have HW1:=hid hw1;have HF1:=hid hf1;clear hw1 hf1)
 go_wp2
 go_loopw [14] (fun vi wr=>∃i:Nat,i≤n∧vi=I J i∧Hid (WR B g (bs++(uI n++flB i P)) wr)∧Hid (FR B g w wr)) (fun vi _=>n-(intOf vi).toNat)
 case atStart=>exact ⟨0,Qz _,rfl,by simpa[flB]using HW1,HF1⟩
 obtain ⟨i,hi,rfl,HR,HF⟩:=hrel
 by_cases hlt:i<n
 ·obtain ⟨z0,z1,z2⟩:=HX.out i hlt
  obtain ⟨hpe,hnw⟩:=HAD.out (by omega)
  subst hpe
  have x0:=(QW (a:=⟨blk,off+i*3,none⟩) (HF.out.block blk hnw)).trans z0
  have x1:=(QW (a:=⟨blk,off+i*3+1,none⟩) (HF.out.block blk hnw)).trans z1
  have x2:=(QW (a:=⟨blk,off+i*3+2,none⟩) (HF.out.block blk hnw)).trans z2
  have HLE:=hid (show (bs++(uI n++flB i P)).length≤3000000000000 by
   have h1:=HLN.out
   have h2:=flB_le P (Qo hlt)
   have h3:=HUL.out
   simp only[QA]
   omega)
  have HNX:=hid (show bs++(uI n++flB (i+1) P)=(bs++(uI n++flB i P))++P i by rw[flB];simp only[QS])
  have HKX:=fun (o:Obj)=>hid (HP.out i hlt _ (wr.alloc o) (HF.out.alloc o) (HR.out.alloc o) HLE.out)
  generalize P i=Pi at *
  generalize t0 i=s0 at *
  generalize p1 i=q1 at *
  generalize n1 i=m1 at *
  generalize c1 i=d1 at *
  generalize p2 i=q2 at *
  generalize n2 i=m2 at *
  generalize c2 i=d2 at *
  clear z0 z1 z2 hnw hi
  go_wp2_with (go_at_fn k;(with_reducible refine (HKX _).out.mono ?_);rintro e w2 ⟨rfl,hw2,hf2⟩;have HW2:=hid hw2;have HF2:=hid ((HF.out.alloc _).trans hf2);clear hw2 hf2)
  go_roundw
  case rel =>
   refine ⟨i+1,hlt,by go_num,?_,HF2⟩
   rw[HNX.out]
   exact HW2
  case measure=>simp[intOf];omega
 obtain rfl:i=n:=by omega
 go_wp2
 (first|go_end0|refine bodyPost_ret (results_none rfl _ _ _) rfl ?_)
 exact ⟨rfl,HR.out,HF.out⟩
theorem wl_Tab (B g k:Nat) (eg:∀args w,(callFunc k args).run QP w=.ok (.enter k args) w) (b:Nat) (P:Nat→List UInt8) (n blk off c:Nat) (ad:Option Addr) (t0:Nat→Int) (t1:Nat→Int) (t2:Nat→Int) (bq3:Nat→Bool) (w:World) (hn62:n<9223372036854775807)
  (had:n≠0→ad=some ⟨blk,off,none⟩∧NW B g w blk) (hx:∀i,i<n→w.cell? ⟨blk,off+i*4,none⟩=some (I J (t0 i))∧w.cell? ⟨blk,off+i*4+1,none⟩=some (I J (t1 i))∧w.cell? ⟨blk,off+i*4+2,none⟩=some (I J (t2 i))∧w.cell? ⟨blk,off+i*4+3,none⟩=some (G (bq3 i)))
  (hP:∀i,i<n→∀bs W,FR B g w W→WR B g bs W→bs.length≤3000000000000→Calls QP k #[.agg #[I J (t0 i),I J (t1 i),I J (t2 i),G (bq3 i)],Qp (some ⟨b,0,none⟩)] W fun e w'=>e=Qr (.tuple #[])∧WR B g (bs++P i) w'∧FR B g W w')
  (bs:List UInt8) (hw:WR B g bs w) (hlen:bs.length+10+(flB n P).length≤3000000000000) :
  Calls QP 179 #[Qp (some ⟨g,0,none⟩),V ad n c,.func (.func k) #[] #[Qp (some ⟨b,0,none⟩)]] w fun e w'=>e=Qr (.tuple #[])∧WR B g (bs++(uI n++flB n P)) w'∧FR B g w w':=by
 have HAD:=hid had
 have HX:=hid hx
 have HP:=hid hP
 have HW:=hid hw
 have HLN:=hid hlen
 have HUL:=hid (uI_len n)
 have nn62:(n:Int)<9223372036854775807:=by omega
 have HN1:=hid (show bs.length+10≤140737488355000 by omega)
 clear had hx hP hw hlen hn62
 go_enter Tryz.func179,Tryz.ntmps179
 go_upto_region 1 with (go_at_call 105;(with_reducible refine (u_says B g bs n _ HW.out.base HW.out HN1.out).mono ?_);rintro e w1 ⟨rfl,hw1,hf1⟩;have HW1:=hid hw1;have HF1:=hid hf1;clear hw1 hf1)
 go_wp2
 go_loopw [14] (fun vi wr=>∃i:Nat,i≤n∧vi=I J i∧Hid (WR B g (bs++(uI n++flB i P)) wr)∧Hid (FR B g w wr)) (fun vi _=>n-(intOf vi).toNat)
 case atStart=>exact ⟨0,Qz _,rfl,by simpa[flB]using HW1,HF1⟩
 obtain ⟨i,hi,rfl,HR,HF⟩:=hrel
 by_cases hlt:i<n
 ·obtain ⟨z0,z1,z2,z3⟩:=HX.out i hlt
  obtain ⟨hpe,hnw⟩:=HAD.out (by omega)
  subst hpe
  have x0:=(QW (a:=⟨blk,off+i*4,none⟩) (HF.out.block blk hnw)).trans z0
  have x1:=(QW (a:=⟨blk,off+i*4+1,none⟩) (HF.out.block blk hnw)).trans z1
  have x2:=(QW (a:=⟨blk,off+i*4+2,none⟩) (HF.out.block blk hnw)).trans z2
  have x3:=(QW (a:=⟨blk,off+i*4+3,none⟩) (HF.out.block blk hnw)).trans z3
  have HLE:=hid (show (bs++(uI n++flB i P)).length≤3000000000000 by
   have h1:=HLN.out
   have h2:=flB_le P (Qo hlt)
   have h3:=HUL.out
   simp only[QA]
   omega)
  have HNX:=hid (show bs++(uI n++flB (i+1) P)=(bs++(uI n++flB i P))++P i by rw[flB];simp only[QS])
  have HKX:=fun (o:Obj)=>hid (HP.out i hlt _ (wr.alloc o) (HF.out.alloc o) (HR.out.alloc o) HLE.out)
  generalize P i=Pi at *
  generalize t0 i=s0 at *
  generalize t1 i=s1 at *
  generalize t2 i=s2 at *
  generalize bq3 i=be3 at *
  clear z0 z1 z2 z3 hnw hi
  go_wp2_with (go_at_fn k;(with_reducible refine (HKX _).out.mono ?_);rintro e w2 ⟨rfl,hw2,hf2⟩;have HW2:=hid hw2;have HF2:=hid ((HF.out.alloc _).trans hf2);clear hw2 hf2)
  go_roundw
  case rel =>
   refine ⟨i+1,hlt,by go_num,?_,HF2⟩
   rw[HNX.out]
   exact HW2
  case measure=>simp[intOf];omega
 obtain rfl:i=n:=by omega
 go_wp2
 (first|go_end0|refine bodyPost_ret (results_none rfl _ _ _) rfl ?_)
 exact ⟨rfl,HR.out,HF.out⟩
theorem wl_Lim (B g k:Nat) (eg:∀args w,(callFunc k args).run QP w=.ok (.enter k args) w) (b:Nat) (P:Nat→List UInt8) (n blk off c:Nat) (ad:Option Addr) (t0:Nat→Int) (t1:Nat→Int) (bq2:Nat→Bool) (w:World) (hn62:n<9223372036854775807)
  (had:n≠0→ad=some ⟨blk,off,none⟩∧NW B g w blk) (hx:∀i,i<n→w.cell? ⟨blk,off+i*3,none⟩=some (I J (t0 i))∧w.cell? ⟨blk,off+i*3+1,none⟩=some (I J (t1 i))∧w.cell? ⟨blk,off+i*3+2,none⟩=some (G (bq2 i)))
  (hP:∀i,i<n→∀bs W,FR B g w W→WR B g bs W→bs.length≤3000000000000→Calls QP k #[.agg #[I J (t0 i),I J (t1 i),G (bq2 i)],Qp (some ⟨b,0,none⟩)] W fun e w'=>e=Qr (.tuple #[])∧WR B g (bs++P i) w'∧FR B g W w')
  (bs:List UInt8) (hw:WR B g bs w) (hlen:bs.length+10+(flB n P).length≤3000000000000) :
  Calls QP 181 #[Qp (some ⟨g,0,none⟩),V ad n c,.func (.func k) #[] #[Qp (some ⟨b,0,none⟩)]] w fun e w'=>e=Qr (.tuple #[])∧WR B g (bs++(uI n++flB n P)) w'∧FR B g w w':=by
 have HAD:=hid had
 have HX:=hid hx
 have HP:=hid hP
 have HW:=hid hw
 have HLN:=hid hlen
 have HUL:=hid (uI_len n)
 have nn62:(n:Int)<9223372036854775807:=by omega
 have HN1:=hid (show bs.length+10≤140737488355000 by omega)
 clear had hx hP hw hlen hn62
 go_enter Tryz.func181,Tryz.ntmps181
 go_upto_region 1 with (go_at_call 105;(with_reducible refine (u_says B g bs n _ HW.out.base HW.out HN1.out).mono ?_);rintro e w1 ⟨rfl,hw1,hf1⟩;have HW1:=hid hw1;have HF1:=hid hf1;clear hw1 hf1)
 go_wp2
 go_loopw [14] (fun vi wr=>∃i:Nat,i≤n∧vi=I J i∧Hid (WR B g (bs++(uI n++flB i P)) wr)∧Hid (FR B g w wr)) (fun vi _=>n-(intOf vi).toNat)
 case atStart=>exact ⟨0,Qz _,rfl,by simpa[flB]using HW1,HF1⟩
 obtain ⟨i,hi,rfl,HR,HF⟩:=hrel
 by_cases hlt:i<n
 ·obtain ⟨z0,z1,z2⟩:=HX.out i hlt
  obtain ⟨hpe,hnw⟩:=HAD.out (by omega)
  subst hpe
  have x0:=(QW (a:=⟨blk,off+i*3,none⟩) (HF.out.block blk hnw)).trans z0
  have x1:=(QW (a:=⟨blk,off+i*3+1,none⟩) (HF.out.block blk hnw)).trans z1
  have x2:=(QW (a:=⟨blk,off+i*3+2,none⟩) (HF.out.block blk hnw)).trans z2
  have HLE:=hid (show (bs++(uI n++flB i P)).length≤3000000000000 by
   have h1:=HLN.out
   have h2:=flB_le P (Qo hlt)
   have h3:=HUL.out
   simp only[QA]
   omega)
  have HNX:=hid (show bs++(uI n++flB (i+1) P)=(bs++(uI n++flB i P))++P i by rw[flB];simp only[QS])
  have HKX:=fun (o:Obj)=>hid (HP.out i hlt _ (wr.alloc o) (HF.out.alloc o) (HR.out.alloc o) HLE.out)
  generalize P i=Pi at *
  generalize t0 i=s0 at *
  generalize t1 i=s1 at *
  generalize bq2 i=be2 at *
  clear z0 z1 z2 hnw hi
  go_wp2_with (go_at_fn k;(with_reducible refine (HKX _).out.mono ?_);rintro e w2 ⟨rfl,hw2,hf2⟩;have HW2:=hid hw2;have HF2:=hid ((HF.out.alloc _).trans hf2);clear hw2 hf2)
  go_roundw
  case rel =>
   refine ⟨i+1,hlt,by go_num,?_,HF2⟩
   rw[HNX.out]
   exact HW2
  case measure=>simp[intOf];omega
 obtain rfl:i=n:=by omega
 go_wp2
 (first|go_end0|refine bodyPost_ret (results_none rfl _ _ _) rfl ?_)
 exact ⟨rfl,HR.out,HF.out⟩
theorem wl_Glo (B g k:Nat) (eg:∀args w,(callFunc k args).run QP w=.ok (.enter k args) w) (b:Nat) (P:Nat→List UInt8) (n blk off c:Nat) (ad:Option Addr) (t0:Nat→Int) (bq1:Nat→Bool) (p2:Nat→Option Addr) (n2:Nat→Nat) (c2:Nat→Nat) (w:World) (hn62:n<9223372036854775807)
  (had:n≠0→ad=some ⟨blk,off,none⟩∧NW B g w blk) (hx:∀i,i<n→w.cell? ⟨blk,off+i*3,none⟩=some (I J (t0 i))∧w.cell? ⟨blk,off+i*3+1,none⟩=some (G (bq1 i))∧w.cell? ⟨blk,off+i*3+2,none⟩=some (V (p2 i) (n2 i) (c2 i)))
  (hP:∀i,i<n→∀bs W,FR B g w W→WR B g bs W→bs.length≤3000000000000→Calls QP k #[.agg #[I J (t0 i),G (bq1 i),V (p2 i) (n2 i) (c2 i)],Qp (some ⟨b,0,none⟩)] W fun e w'=>e=Qr (.tuple #[])∧WR B g (bs++P i) w'∧FR B g W w')
  (bs:List UInt8) (hw:WR B g bs w) (hlen:bs.length+10+(flB n P).length≤3000000000000) :
  Calls QP 184 #[Qp (some ⟨g,0,none⟩),V ad n c,.func (.func k) #[] #[Qp (some ⟨b,0,none⟩)]] w fun e w'=>e=Qr (.tuple #[])∧WR B g (bs++(uI n++flB n P)) w'∧FR B g w w':=by
 have HAD:=hid had
 have HX:=hid hx
 have HP:=hid hP
 have HW:=hid hw
 have HLN:=hid hlen
 have HUL:=hid (uI_len n)
 have nn62:(n:Int)<9223372036854775807:=by omega
 have HN1:=hid (show bs.length+10≤140737488355000 by omega)
 clear had hx hP hw hlen hn62
 go_enter Tryz.func184,Tryz.ntmps184
 go_upto_region 1 with (go_at_call 105;(with_reducible refine (u_says B g bs n _ HW.out.base HW.out HN1.out).mono ?_);rintro e w1 ⟨rfl,hw1,hf1⟩;have HW1:=hid hw1;have HF1:=hid hf1;clear hw1 hf1)
 go_wp2
 go_loopw [14] (fun vi wr=>∃i:Nat,i≤n∧vi=I J i∧Hid (WR B g (bs++(uI n++flB i P)) wr)∧Hid (FR B g w wr)) (fun vi _=>n-(intOf vi).toNat)
 case atStart=>exact ⟨0,Qz _,rfl,by simpa[flB]using HW1,HF1⟩
 obtain ⟨i,hi,rfl,HR,HF⟩:=hrel
 by_cases hlt:i<n
 ·obtain ⟨z0,z1,z2⟩:=HX.out i hlt
  obtain ⟨hpe,hnw⟩:=HAD.out (by omega)
  subst hpe
  have x0:=(QW (a:=⟨blk,off+i*3,none⟩) (HF.out.block blk hnw)).trans z0
  have x1:=(QW (a:=⟨blk,off+i*3+1,none⟩) (HF.out.block blk hnw)).trans z1
  have x2:=(QW (a:=⟨blk,off+i*3+2,none⟩) (HF.out.block blk hnw)).trans z2
  have HLE:=hid (show (bs++(uI n++flB i P)).length≤3000000000000 by
   have h1:=HLN.out
   have h2:=flB_le P (Qo hlt)
   have h3:=HUL.out
   simp only[QA]
   omega)
  have HNX:=hid (show bs++(uI n++flB (i+1) P)=(bs++(uI n++flB i P))++P i by rw[flB];simp only[QS])
  have HKX:=fun (o:Obj)=>hid (HP.out i hlt _ (wr.alloc o) (HF.out.alloc o) (HR.out.alloc o) HLE.out)
  generalize P i=Pi at *
  generalize t0 i=s0 at *
  generalize bq1 i=be1 at *
  generalize p2 i=q2 at *
  generalize n2 i=m2 at *
  generalize c2 i=d2 at *
  clear z0 z1 z2 hnw hi
  go_wp2_with (go_at_fn k;(with_reducible refine (HKX _).out.mono ?_);rintro e w2 ⟨rfl,hw2,hf2⟩;have HW2:=hid hw2;have HF2:=hid ((HF.out.alloc _).trans hf2);clear hw2 hf2)
  go_roundw
  case rel =>
   refine ⟨i+1,hlt,by go_num,?_,HF2⟩
   rw[HNX.out]
   exact HW2
  case measure=>simp[intOf];omega
 obtain rfl:i=n:=by omega
 go_wp2
 (first|go_end0|refine bodyPost_ret (results_none rfl _ _ _) rfl ?_)
 exact ⟨rfl,HR.out,HF.out⟩
def hdL:List UInt8:=[0,97,115,109,1,0,0,0]
def WH (B g:Nat) (w:World):Prop:=B≤w.heap.size∧∃h,B≤h∧CA g #[V (some ⟨h,0,none⟩) 8 8] 137 w∧w.heap[h]?=some (.cells (QY hdL).toArray 5 (8,9))
def WR0 (B g:Nat) (bs:List UInt8) (w:World):Prop:=WR B g bs w∨(bs=hdL∧WH B g w)
theorem WH.alloc {B g:Nat} {w:World} (h:WH B g w) (o:Obj):WH B g (w.alloc o):=by
 obtain ⟨h1,k,h2,h3,h4⟩:=h
 have hk:=(Array.getElem?_eq_some_iff.1 h4).1
 refine ⟨by rw[size_al];omega,k,h2,h3.alloc o,?_⟩
 have:=((QB w.heap.size w).alloc (Ql _) o).block k hk
 rw[this]
 exact h4
theorem WR0.alloc {B g:Nat} {bs:List UInt8} {w:World} (h:WR0 B g bs w) (o:Obj):WR0 B g bs (w.alloc o):=by
 rcases h with h|⟨h1,h2⟩
 ·exact .inl (h.alloc o)
 exact .inr ⟨h1,h2.alloc o⟩
theorem WR0.base {B g:Nat} {bs:List UInt8} {w:World} (h:WR0 B g bs w):B≤w.heap.size:=by
 rcases h with h|⟨_,h⟩
 ·exact h.1
 exact h.1
theorem WR0.lt {B g:Nat} {bs:List UInt8} {w:World} (h:WR0 B g bs w):g<w.heap.size:=by
 rcases h with h|⟨_,_,_,_,h,_⟩
 ·exact h.lt
 exact h.lt
theorem append_byte0 {w:World} {ops:Array Oper} {rest:List Oper} {o:Oper} {a:Act} {Q:Exit→Act→World→Prop} (hgd:o.guard=none) (s x:Operand)
  (ho:o.op=.call { callee:=.builtin .append,args:=#[s,x],argTypes:=#[52,52] }) (B g k:Nat) (n:Int) (W0:World)
  (hBw:B≤w.heap.size) (hc:CA g #[V (some ⟨k,0,none⟩) 8 8] 137 w) (hBk:B≤k) (hrow:w.heap[k]?=some (.cells (QY hdL).toArray 5 (8,9))) (hf:FR B g W0 w) (n0:Nat) (h0:w.heap.size=n0) (hs:a.eval s=V (some ⟨k,0,none⟩) 8 8) (hx:a.eval x=V (some ⟨n0,0,none⟩) 1 1)
  (h:∀v' w',w'.ownsRow B 5 1 v' (hdL++[byI n]).length (QY (hdL++[byI n]))→CA g #[V (some ⟨k,0,none⟩) 8 8] 137 w'→FR B g W0 w'→FR B g W0 (w'.setCell ⟨g,0,none⟩ v')→wpList QP ops Q rest (a.put o.dst v') w') :
  wpList QP ops Q (o::rest) a (w.alloc (Qc #[.int .u8 (n%256)] 5)):=by
 subst h0
 refine wpList_plain hgd fun K hK=>?_
 obtain ⟨i0,hi,hz0,hz1,hz2⟩:=info_parts info5
 have hca:=hc.alloc (Qc #[.int .u8 (n%256)] 5)
 have hk:=(Array.getElem?_eq_some_iff.1 hrow).1
 have hra:(w.alloc (Qc #[.int .u8 (n%256)] 5)).heap[k]?=some (.cells (QY hdL).toArray 5 (8,9)):=by
  rw[((QB w.heap.size w).alloc (Ql _) _).block k hk]
  exact hrow
 have hsz1:=size_al w (Qc #[.int .u8 (n%256)] 5)
 have hcn:=cell_one_new w (.int .u8 (n%256)) 5
 have hf1:=hf.alloc (Qc #[.int .u8 (n%256)] 5)
 generalize w.alloc (Qc #[.int .u8 (n%256)] 5)=w1 at *
 have hrun:=run_append_grow (P:=QP) w1 52 o.type 5 i0 (.int .u8 0) Tryz.underlying52 hi hz0 ⟨k,0,none⟩ 8 8 (QY hdL) (by rw[hz1];rfl) (fun j u hj=>by
  have hj8:j<8:=(List.getElem?_eq_some_iff.1 hj).1
  rw[addr_add,Nat.zero_add,World.cell?,hra]
  simpa using hj) ⟨w.heap.size,0,none⟩ 1 1 [.int .u8 (n%256)] (by rw[hz1];rfl) hcn (by decide) (by decide) (growslice_fits (by decide) (by rw[hz2];decide))
 have hcell:QY (hdL++[byI n])=QY hdL++[.int .u8 (n%256)]:=byteCells_byI hdL n
 have hge:=grownCap_ge w1 (8+1) 8 5
 have hle:=grownCap_le_maxLen w1 (8+1) 8 5 (by decide)
 have hzc:(Value.int .u8 0).cells.size=1:=rfl
 obtain ⟨cap,hcap⟩:∃c,c=grownCap w1 (8+1) 8 5:=⟨_,rfl⟩
 rw[←hcap]at hrun hge hle
 obtain ⟨ob,hob⟩:∃ob,ob=Obj.cells ((QY hdL).toArray++[Value.int .u8 (n%256)].toArray++Builtin.zeroCells (Value.int .u8 0).cells (cap-(8+1))) 5:=⟨_,rfl⟩
 rw[←hob]at hrun
 have hbel:Below w1.heap.size w1 (w1.drew.alloc ob):=((QB _ _).drew).alloc (Ql _) ob
 have hBw1:B≤w1.heap.size:=by omega
 have hown:(w1.drew.alloc ob).ownsRow B 5 1 (V (some ⟨w1.heap.size,0,none⟩) 9 cap) (hdL++[byI n]).length (QY (hdL++[byI n])):=by
  refine ⟨by rw[Lib.byteCells_length,Nat.mul_one],.inr ⟨w1.heap.size,cap,_,rfl,hBw1,by rw[hob];exact heap_alloc_new w1.drew _,hge,hle,?_,?_⟩⟩
  ·simp only[Array.size_append,List.size_toArray,size_zeroCells,hzc,Lib.byteCells_length]
   simp only[hdL,QC,QN]
   omega
  rw[hcell]
  simp only[Array.toList_append]
  exact List.take_left' (by simp[hdL,QY])
 have hc2:CA g #[V (some ⟨k,0,none⟩) 8 8] 137 (w1.drew.alloc ob):=hca.below hbel hca.lt
 have hf2:FR B g W0 (w1.drew.alloc ob):=hf1.trans (FR.of hbel)
 unfold Oper.wp
 simp[execOp,ho,resolve,invoke,builtin,hs,hx,hrun,Result.andThen]
 refine hK _ _ (h _ _ hown hc2 hf2 (hf2.put (hc2.at (v:=V (some ⟨k,0,none⟩) 8 8) rfl) _ (fun j hj _ e=>?_)))
 have:w1.heap.size=j:=Option.some.inj e
 have:=hf1.size
 omega
theorem bytes_first (B g:Nat) (x:Int) (v:Value) (w:World) (hw:WH B g w) (hl:LT B g w v [x]) :
  Calls QP 169 #[Qp (some ⟨g,0,none⟩),v] w fun e w'=>e=Qr (.tuple #[])∧WR B g (hdL++[byI x]) w'∧FR B g w w':=by
 obtain ⟨p,c,rfl,hq,hl2⟩:=id hl
 obtain ⟨kb,o,rfl,hk,hcell⟩:=hl2 (by simp)
 have HW:=hid hw
 have HK:=hid hk
 have HCL:=hid (hcell 0 x rfl)
 have e1:([x]:List Int).length=1:=rfl
 rw[e1]
 clear hl2 hl hw hq hk hcell e1
 go_enter Tryz.func169,Tryz.ntmps169
 go_wp2
 go_loopw [8] (fun vi wr=>∃i:Nat,i≤1∧vi=I J i∧Hid (i=0→WH B g wr)∧Hid (i=1→WR B g (hdL++[byI x]) wr)∧Hid (FR B g w wr)) (fun vi _=>1-(intOf vi).toNat)
 case atStart=>exact ⟨0,Qz _,rfl,hid (fun _=>HW.out),hid (fun h=>absurd h (by decide)),FR.refl _ _ _⟩
 obtain ⟨i,hi,rfl,HR0,HR1,HF⟩:=hrel
 rcases (show i=0∨i=1 by omega) with rfl|rfl
 ·obtain ⟨hBw,k,hBk,hc,hrow⟩:=HR0.out rfl
  have z0:=(QW (a:=⟨kb,o+0,none⟩) (HF.out.block kb HK.out)).trans HCL.out
  rw[Nat.add_zero]at z0
  have y0:=hc.at (k:=0) (v:=V (some ⟨k,0,none⟩) 8 8) rfl
  have HC:=hid hc
  have HB1:=hid hBw
  have HB2:=hid hBk
  have HRW:=hid hrow
  have HGA:=hid (show B≤wr.heap.size from hBw)
  clear hc hBw hBk hrow hi HR0 HR1
  rw[show ((0:Nat):Int)=0 from rfl]
  go_wp2_with (at_builtin;refine append_byte0 rfl _ _ rfl B g k x w HB1.out HC.out HB2.out HRW.out HF.out _ rfl rfl rfl ?_;intro v2 w2 ho2 hc2 hf2 hf3;have HF3:=hid hf3;clear hf3;obtain ⟨p2,m2,c2,rfl⟩:=own_slice ho2;have y1:=hc2.at (k:=0) (v:=V (some ⟨k,0,none⟩) 8 8) rfl;have y2:=hc2.free 0;have HO2:=hid ho2;have HC2:=hid hc2;have HF2:=hid hf2;clear ho2 hc2 hf2)
  go_roundw
  case rel=>exact ⟨1,Ql _,rfl,hid (fun h=>absurd h (by decide)),hid (fun _=>WR.put (Qk HW.out.1 HF2.out.size) HC2.out HO2.out),HF3⟩
  case measure=>simp[intOf]
 have HR:=HR1.out rfl
 clear HR0 HR1 hi
 rw[show ((1:Nat):Int)=1 from rfl]
 go_wp2
 (first|go_end0|refine bodyPost_ret (results_none rfl _ _ _) rfl ?_)
 exact ⟨rfl,HR,HF.out⟩
theorem section0_wm (B g k:Nat) (eg:∀args w,(callFunc k args).run QP w=.ok (.enter k args) w) (cs:Array Value) (id:Int) (X:List UInt8) (w:World) (hX:X.length≤2000000000000)
  (hc:∀B' W,B≤B'→FR B g w W→WR B' g [] W→Calls QP k cs W fun e w'=>e=Qr (.tuple #[])∧WR B' g X w'∧FR B' g W w') :
  ∀bs,WR0 B g bs w→bs.length≤90000000000000→Calls QP 118 #[Qp (some ⟨g,0,none⟩),I J id,.func (.func k) #[] cs] w fun e w'=>e=Qr (.tuple #[])∧WR B g (bs++byI id::szL X) w'∧FR B g w w':=by
 intro bs hw hn
 rcases hw with hw|⟨rfl,hw⟩
 ·exact section_wm B g k eg cs id X w hX hc bs hw hn
 have HW:=hid hw
 have HGL:=hid (WR0.lt (bs:=hdL) (.inr ⟨rfl,hw⟩))
 have HNN:=hid (show (hdL++[byI id]).length≤100000000000000 by simp[hdL])
 have HS:=fun (W:World) (h:FR B g w W) (bs:List UInt8) (h2:WR B g bs W) (h3:bs.length≤100000000000000)=>hid (sized_wm B g k eg cs X W hX (fun B' W' h1 h2 h3=>hc B' W' h1 (h.trans h2) h3) bs h2 h3)
 clear hw hn hc hX
 go_enter Tryz.func118,Tryz.ntmps118
 go_wp2_with (first
  |(go_at_call 169;(with_reducible refine (bytes_first B g id _ _ (HW.out.alloc _) (LT.one id 1 HGL.out)).mono ?_);rintro e w1 ⟨rfl,hw1,hf1⟩;have HW1:=hid hw1;have HF1:=hid (((FR.refl B g w).alloc _).trans hf1);clear hw1 hf1)
  |(go_at_call 187;(with_reducible refine (HS _ HF1.out _ HW1.out HNN.out).out.mono ?_);rintro e w2 ⟨rfl,hw2,hf2⟩;have HW2:=hid hw2;have HF2:=hid (HF1.out.trans hf2);clear hw2 hf2))
 (first|go_end0|refine bodyPost_ret (results_none rfl _ _ _) rfl ?_)
 refine ⟨rfl,?_,HF2.out⟩
 have:=HW2.out
 simpa using this
end Go.Proofs.YtjgeedgphcjhoaaGreat
