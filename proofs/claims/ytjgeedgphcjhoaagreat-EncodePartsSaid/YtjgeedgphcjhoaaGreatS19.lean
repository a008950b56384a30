/-
  WSecT, ECode, RSmall, RSgn: merged, what the law does not reach left out (each text says what it holds where it lies in wip). No condition.
-/
import Derived.Test.YtjgeedgphcjhoaaGreatS18
import Derived.Test.YtjgeedgphcjhoaaGreatS15
import Derived.Test.YtjgeedgphcjhoaaGreatS07
import Derived.Test.YtjgeedgphcjhoaaGreatS06
import Derived.Test.YtjgeedgphcjhoaaGreatS10
import Derived.Test.YtjgeedgphcjhoaaGreatS12
import Derived.Test.YtjgeedgphcjhoaaGreatS13
import Derived.Laws.BitsLemmas
import Derived.Laws.Bits64
import Derived.Laws.Bits64b
import Derived.Test.YtjgeedgphcjhoaaGreatS01
set_option linter.unusedSimpArgs false
set_option linter.unusedVariables false
set_option maxRecDepth 100000
set_option maxHeartbeats 64000000
namespace Go.Proofs.YtjgeedgphcjhoaaGreat
open Go.RowKit
open Value renaming int → I,slice → V,bool → G,string → Qs,pointer → Qp
open IntKind renaming i64 → J,u64 → O
open Ending renaming returned → Qr
open Obj renaming cells → Qc
open _root_.Go.Proofs.Tryz renaming prog → QP
open Nat renaming le_refl → Ql,le_trans → Qk,zero_le → Qz
open List renaming length_cons → QC,length_nil → QN
open Below renaming refl → QB
open Lib renaming byteCells → QY
theorem FR.lower {B B' g:Nat} {w w':World} (h:FR B' g w w') (hB:B≤B'):FR B g w w' :=
 ⟨h.os,h.tape,h.output,h.size,fun k hk=>h.block k ⟨hk.1,hk.2.1,by rcases hk.2.2 with h1|h1;exact .inl (by omega);exact .inr h1⟩,h.own⟩
theorem sec_pre (B g bw k L L1 SL FT N:Nat) (cs:Nat→List Value) (d2:SL≠5) (d3:FT≠5) (e1:∀args w,(callFunc L1 args).run QP w=.ok (.enter L1 args) w) (id:Int) (P:Nat→List UInt8) (p:Option Addr) (n c blk off:Nat) (w:World) (hL:L≤lo B g) (hr:RowM L w p n blk off N cs)
  (lin:∀B' b1 b2 b3 W,L≤lo B' g→RowM L W p n blk off N cs→CA b1 #[Qp (some ⟨g,0,none⟩)] 135 W→CA b2 #[V p n c] SL W→CA b3 #[.func (.func k) #[] #[Qp (some ⟨bw,0,none⟩)]] FT W→B≤B'→FR B g w W→WR B' g [] W→Calls QP L1 #[Qp (some ⟨b1,0,none⟩),Qp (some ⟨b2,0,none⟩),Qp (some ⟨b3,0,none⟩)] W fun e w'=>e=Qr (.tuple #[])∧WR B' g (uI n++flB n P) w'∧FR B' g W w')
  (hX:(flB n P).length≤1000000000000) (bs:List UInt8) (hw:WR0 B g bs w) (hn:bs.length≤90000000000000) :
  FR B g w (((w.alloc (Qc #[Qp (some ⟨g,0,none⟩)] 135)).alloc (Qc #[V p n c] SL)).alloc (Qc #[.func (.func k) #[] #[Qp (some ⟨bw,0,none⟩)]] FT))∧WR0 B g bs (((w.alloc (Qc #[Qp (some ⟨g,0,none⟩)] 135)).alloc (Qc #[V p n c] SL)).alloc (Qc #[.func (.func k) #[] #[Qp (some ⟨bw,0,none⟩)]] FT))∧CA w.heap.size #[Qp (some ⟨g,0,none⟩)] 135 (((w.alloc (Qc #[Qp (some ⟨g,0,none⟩)] 135)).alloc (Qc #[V p n c] SL)).alloc (Qc #[.func (.func k) #[] #[Qp (some ⟨bw,0,none⟩)]] FT))∧CA (w.heap.size+1) #[V p n c] SL (((w.alloc (Qc #[Qp (some ⟨g,0,none⟩)] 135)).alloc (Qc #[V p n c] SL)).alloc (Qc #[.func (.func k) #[] #[Qp (some ⟨bw,0,none⟩)]] FT)) ∧
   (Calls QP 118 #[Qp (some ⟨g,0,none⟩),I J id,.func (.func L1) #[] #[Qp (some ⟨w.heap.size,0,none⟩),Qp (some ⟨w.heap.size+1,0,none⟩),Qp (some ⟨w.heap.size+1+1,0,none⟩)]] (((w.alloc (Qc #[Qp (some ⟨g,0,none⟩)] 135)).alloc (Qc #[V p n c] SL)).alloc (Qc #[.func (.func k) #[] #[Qp (some ⟨bw,0,none⟩)]] FT)) fun e w'=>e=Qr (.tuple #[])∧WR B g (bs++byI id::szL (uI n++flB n P)) w'∧FR B g (((w.alloc (Qc #[Qp (some ⟨g,0,none⟩)] 135)).alloc (Qc #[V p n c] SL)).alloc (Qc #[.func (.func k) #[] #[Qp (some ⟨bw,0,none⟩)]] FT)) w'):=by
 have hB:=hw.base
 have hLw:L≤w.heap.size:=Qk hL (Qk (lo_B B g) hB)
 have hgl:=hw.lt
 have hF3:=(((FR.refl B g w).alloc (Qc #[Qp (some ⟨g,0,none⟩)] 135)).alloc (Qc #[V p n c] SL)).alloc (Qc #[.func (.func k) #[] #[Qp (some ⟨bw,0,none⟩)]] FT)
 have hW3:=((hw.alloc (Qc #[Qp (some ⟨g,0,none⟩)] 135)).alloc (Qc #[V p n c] SL)).alloc (Qc #[.func (.func k) #[] #[Qp (some ⟨bw,0,none⟩)]] FT)
 have c1:=((CA.new w #[Qp (some ⟨g,0,none⟩)] 135).alloc (Qc #[V p n c] SL)).alloc (Qc #[.func (.func k) #[] #[Qp (some ⟨bw,0,none⟩)]] FT)
 have c2:=(CA.new (w.alloc (Qc #[Qp (some ⟨g,0,none⟩)] 135)) #[V p n c] SL).alloc (Qc #[.func (.func k) #[] #[Qp (some ⟨bw,0,none⟩)]] FT)
 have c3:=CA.new ((w.alloc (Qc #[Qp (some ⟨g,0,none⟩)] 135)).alloc (Qc #[V p n c] SL)) #[.func (.func k) #[] #[Qp (some ⟨bw,0,none⟩)]] FT
 simp only[size_al]at c2 c3
 have HUL:=uI_len n
 exact ⟨hF3,hW3,c1,c2,section0_wm B g L1 e1 _ id (uI n++flB n P) _ (by simp only[List.length_append];omega)
  (fun B' W hBB hF hW=>lin B' w.heap.size (w.heap.size+1) (w.heap.size+1+1) W (le_lo (Qk hL (Qk (lo_B B g) hBB)) (Qk hL (lo_g B g))) (hr.below (((hF3.trans hF).belowL hB).mono hL)) (c1.fr hF (by decide) (by omega)) (c2.fr hF d2 (by omega)) (c3.fr hF d3 (by omega)) hBB (hF3.trans hF) hW) bs hW3 hn⟩
theorem lin_any (L1 CL SL FT:Nat) (hh:(L1=167∧CL=168∧SL=22∧FT=139)∨(L1=171∧CL=172∧SL=23∧FT=141)∨(L1=175∧CL=176∧SL=24∧FT=144)∨(L1=178∧CL=179∧SL=25∧FT=146)∨(L1=180∧CL=181∧SL=26∧FT=148)∨(L1=183∧CL=184∧SL=27∧FT=150)∨(L1=185∧CL=186∧SL=28∧FT=152)∨(L1=188∧CL=189∧SL=29∧FT=155)∨(L1=198∧CL=199∧SL=30∧FT=157)) (B g b1 b2 b3 bw k:Nat) (X:List UInt8) (p:Option Addr) (n c:Nat) (w:World)
  (h1:CA b1 #[Qp (some ⟨g,0,none⟩)] 135 w) (h2:CA b2 #[V p n c] SL w) (h3:CA b3 #[.func (.func k) #[] #[Qp (some ⟨bw,0,none⟩)]] FT w)
  (hC:Calls QP CL #[Qp (some ⟨g,0,none⟩),V p n c,.func (.func k) #[] #[Qp (some ⟨bw,0,none⟩)]] w fun e w'=>e=Qr (.tuple #[])∧WR B g ([]++X) w'∧FR B g w w') :
  Calls QP L1 #[Qp (some ⟨b1,0,none⟩),Qp (some ⟨b2,0,none⟩),Qp (some ⟨b3,0,none⟩)] w fun e w'=>e=Qr (.tuple #[])∧WR B g X w'∧FR B g w w':=by
 rw[List.nil_append]at hC
 have HC:=hid hC
 have y1:=h1.at (k:=0) (v:=Qp (some ⟨g,0,none⟩)) rfl
 have y2:=h2.at (k:=0) (v:=V p n c) rfl
 have y3:=h3.at (k:=0) (v:=.func (.func k) #[] #[Qp (some ⟨bw,0,none⟩)]) rfl
 clear h1 h2 h3 hC
 rcases hh with ⟨rfl,rfl,rfl,rfl⟩|⟨rfl,rfl,rfl,rfl⟩|⟨rfl,rfl,rfl,rfl⟩|⟨rfl,rfl,rfl,rfl⟩|⟨rfl,rfl,rfl,rfl⟩|⟨rfl,rfl,rfl,rfl⟩|⟨rfl,rfl,rfl,rfl⟩|⟨rfl,rfl,rfl,rfl⟩|⟨rfl,rfl,rfl,rfl⟩
 ·go_enter Tryz.func167,Tryz.ntmps167
  go_wp2_with (go_at_call 168;(with_reducible refine HC.out.mono ?_);rintro e w1 ⟨rfl,hw',hf⟩;have HW1:=hid hw';have HF1:=hid hf;clear hw' hf)
  (first|go_end0|refine bodyPost_ret (results_none rfl _ _ _) rfl ?_)
  exact ⟨rfl,HW1.out,HF1.out⟩
 ·go_enter Tryz.func171,Tryz.ntmps171
  go_wp2_with (go_at_call 172;(with_reducible refine HC.out.mono ?_);rintro e w1 ⟨rfl,hw',hf⟩;have HW1:=hid hw';have HF1:=hid hf;clear hw' hf)
  (first|go_end0|refine bodyPost_ret (results_none rfl _ _ _) rfl ?_)
  exact ⟨rfl,HW1.out,HF1.out⟩
 ·go_enter Tryz.func175,Tryz.ntmps175
  go_wp2_with (go_at_call 176;(with_reducible refine HC.out.mono ?_);rintro e w1 ⟨rfl,hw',hf⟩;have HW1:=hid hw';have HF1:=hid hf;clear hw' hf)
  (first|go_end0|refine bodyPost_ret (results_none rfl _ _ _) rfl ?_)
  exact ⟨rfl,HW1.out,HF1.out⟩
 ·go_enter Tryz.func178,Tryz.ntmps178
  go_wp2_with (go_at_call 179;(with_reducible refine HC.out.mono ?_);rintro e w1 ⟨rfl,hw',hf⟩;have HW1:=hid hw';have HF1:=hid hf;clear hw' hf)
  (first|go_end0|refine bodyPost_ret (results_none rfl _ _ _) rfl ?_)
  exact ⟨rfl,HW1.out,HF1.out⟩
 ·go_enter Tryz.func180,Tryz.ntmps180
  go_wp2_with (go_at_call 181;(with_reducible refine HC.out.mono ?_);rintro e w1 ⟨rfl,hw',hf⟩;have HW1:=hid hw';have HF1:=hid hf;clear hw' hf)
  (first|go_end0|refine bodyPost_ret (results_none rfl _ _ _) rfl ?_)
  exact ⟨rfl,HW1.out,HF1.out⟩
 ·go_enter Tryz.func183,Tryz.ntmps183
  go_wp2_with (go_at_call 184;(with_reducible refine HC.out.mono ?_);rintro e w1 ⟨rfl,hw',hf⟩;have HW1:=hid hw';have HF1:=hid hf;clear hw' hf)
  (first|go_end0|refine bodyPost_ret (results_none rfl _ _ _) rfl ?_)
  exact ⟨rfl,HW1.out,HF1.out⟩
 ·go_enter Tryz.func185,Tryz.ntmps185
  go_wp2_with (go_at_call 186;(with_reducible refine HC.out.mono ?_);rintro e w1 ⟨rfl,hw',hf⟩;have HW1:=hid hw';have HF1:=hid hf;clear hw' hf)
  (first|go_end0|refine bodyPost_ret (results_none rfl _ _ _) rfl ?_)
  exact ⟨rfl,HW1.out,HF1.out⟩
 ·go_enter Tryz.func188,Tryz.ntmps188
  go_wp2_with (go_at_call 189;(with_reducible refine HC.out.mono ?_);rintro e w1 ⟨rfl,hw',hf⟩;have HW1:=hid hw';have HF1:=hid hf;clear hw' hf)
  (first|go_end0|refine bodyPost_ret (results_none rfl _ _ _) rfl ?_)
  exact ⟨rfl,HW1.out,HF1.out⟩
 go_enter Tryz.func198,Tryz.ntmps198
 go_wp2_with (go_at_call 199;(with_reducible refine HC.out.mono ?_);rintro e w1 ⟨rfl,hw',hf⟩;have HW1:=hid hw';have HF1:=hid hf;clear hw' hf)
 (first|go_end0|refine bodyPost_ret (results_none rfl _ _ _) rfl ?_)
 exact ⟨rfl,HW1.out,HF1.out⟩
theorem sec_any (LS L1 SL FT:Nat) (hh:(LS=97∧L1=167∧SL=22∧FT=139)∨(LS=100∧L1=171∧SL=23∧FT=141)∨(LS=103∧L1=175∧SL=24∧FT=144)∨(LS=106∧L1=178∧SL=25∧FT=146)∨(LS=109∧L1=180∧SL=26∧FT=148)∨(LS=112∧L1=183∧SL=27∧FT=150)∨(LS=115∧L1=185∧SL=28∧FT=152)∨(LS=120∧L1=188∧SL=29∧FT=155)∨(LS=126∧L1=198∧SL=30∧FT=157)) (B g bw k:Nat) (id:Int) (P:Nat→List UInt8) (p:Option Addr) (n c:Nat) (hn:n<9223372036854775807) (w:World) (bs:List UInt8)
  (hpre:FR B g w (((w.alloc (Qc #[Qp (some ⟨g,0,none⟩)] 135)).alloc (Qc #[V p n c] SL)).alloc (Qc #[.func (.func k) #[] #[Qp (some ⟨bw,0,none⟩)]] FT))∧WR0 B g bs (((w.alloc (Qc #[Qp (some ⟨g,0,none⟩)] 135)).alloc (Qc #[V p n c] SL)).alloc (Qc #[.func (.func k) #[] #[Qp (some ⟨bw,0,none⟩)]] FT))∧CA w.heap.size #[Qp (some ⟨g,0,none⟩)] 135 (((w.alloc (Qc #[Qp (some ⟨g,0,none⟩)] 135)).alloc (Qc #[V p n c] SL)).alloc (Qc #[.func (.func k) #[] #[Qp (some ⟨bw,0,none⟩)]] FT))∧CA (w.heap.size+1) #[V p n c] SL (((w.alloc (Qc #[Qp (some ⟨g,0,none⟩)] 135)).alloc (Qc #[V p n c] SL)).alloc (Qc #[.func (.func k) #[] #[Qp (some ⟨bw,0,none⟩)]] FT)) ∧
   (Calls QP 118 #[Qp (some ⟨g,0,none⟩),I J id,.func (.func L1) #[] #[Qp (some ⟨w.heap.size,0,none⟩),Qp (some ⟨w.heap.size+1,0,none⟩),Qp (some ⟨w.heap.size+1+1,0,none⟩)]] (((w.alloc (Qc #[Qp (some ⟨g,0,none⟩)] 135)).alloc (Qc #[V p n c] SL)).alloc (Qc #[.func (.func k) #[] #[Qp (some ⟨bw,0,none⟩)]] FT)) fun e w'=>e=Qr (.tuple #[])∧WR B g (bs++byI id::szL (uI n++flB n P)) w'∧FR B g (((w.alloc (Qc #[Qp (some ⟨g,0,none⟩)] 135)).alloc (Qc #[V p n c] SL)).alloc (Qc #[.func (.func k) #[] #[Qp (some ⟨bw,0,none⟩)]] FT)) w')) :
  Calls QP LS #[Qp (some ⟨g,0,none⟩),I J id,V p n c,.func (.func k) #[] #[Qp (some ⟨bw,0,none⟩)]] w fun e w'=>e=Qr (.tuple #[])∧WR0 B g (bs++secL id n (flB n P)) w'∧FR B g w w':=by
 have hmf:∀(fn:Fn) (first cap:Array Value) (w:World),(Instr.makeFunc fn first cap).run QP w=.ok (.func fn first cap) w:=fun _ _ _ _=>rfl
 obtain ⟨hF3,hW3,c1,c2,hC⟩:=hpre
 have HF3:=hid hF3
 have HW3:=hid hW3
 have HC1:=hid c1
 have HC2:=hid c2
 have HC:=hid hC
 have nn62:(n:Int)<9223372036854775807:=by omega
 clear hF3 hW3 c1 c2 hC hn
 by_cases h0:n=0
 ·subst h0
  clear HC
  have HE:=hid (show bs++secL id 0 (flB 0 P)=bs by simp[secL])
  rw[HE.out]
  rcases hh with ⟨rfl,rfl,rfl,rfl⟩|⟨rfl,rfl,rfl,rfl⟩|⟨rfl,rfl,rfl,rfl⟩|⟨rfl,rfl,rfl,rfl⟩|⟨rfl,rfl,rfl,rfl⟩|⟨rfl,rfl,rfl,rfl⟩|⟨rfl,rfl,rfl,rfl⟩|⟨rfl,rfl,rfl,rfl⟩|⟨rfl,rfl,rfl,rfl⟩
  ·go_enter Tryz.func97,Tryz.ntmps97;go_wp2;(first|go_end0|refine bodyPost_ret (results_none rfl _ _ _) rfl ?_);exact ⟨rfl,HW3.out,HF3.out⟩
  ·go_enter Tryz.func100,Tryz.ntmps100;go_wp2;(first|go_end0|refine bodyPost_ret (results_none rfl _ _ _) rfl ?_);exact ⟨rfl,HW3.out,HF3.out⟩
  ·go_enter Tryz.func103,Tryz.ntmps103;go_wp2;(first|go_end0|refine bodyPost_ret (results_none rfl _ _ _) rfl ?_);exact ⟨rfl,HW3.out,HF3.out⟩
  ·go_enter Tryz.func106,Tryz.ntmps106;go_wp2;(first|go_end0|refine bodyPost_ret (results_none rfl _ _ _) rfl ?_);exact ⟨rfl,HW3.out,HF3.out⟩
  ·go_enter Tryz.func109,Tryz.ntmps109;go_wp2;(first|go_end0|refine bodyPost_ret (results_none rfl _ _ _) rfl ?_);exact ⟨rfl,HW3.out,HF3.out⟩
  ·go_enter Tryz.func112,Tryz.ntmps112;go_wp2;(first|go_end0|refine bodyPost_ret (results_none rfl _ _ _) rfl ?_);exact ⟨rfl,HW3.out,HF3.out⟩
  ·go_enter Tryz.func115,Tryz.ntmps115;go_wp2;(first|go_end0|refine bodyPost_ret (results_none rfl _ _ _) rfl ?_);exact ⟨rfl,HW3.out,HF3.out⟩
  ·go_enter Tryz.func120,Tryz.ntmps120;go_wp2;(first|go_end0|refine bodyPost_ret (results_none rfl _ _ _) rfl ?_);exact ⟨rfl,HW3.out,HF3.out⟩
  go_enter Tryz.func126,Tryz.ntmps126;go_wp2;(first|go_end0|refine bodyPost_ret (results_none rfl _ _ _) rfl ?_);exact ⟨rfl,HW3.out,HF3.out⟩
 have HE:=hid (show secL id n (flB n P)=byI id::szL (uI n++flB n P) by rw[secL,if_neg h0])
 rw[HE.out]
 have dn:((n:Int)==0)=false:=by simpa using h0
 clear h0 HE
 generalize byI id::szL (uI n++flB n P)=X at *
 rcases hh with ⟨rfl,rfl,rfl,rfl⟩|⟨rfl,rfl,rfl,rfl⟩|⟨rfl,rfl,rfl,rfl⟩|⟨rfl,rfl,rfl,rfl⟩|⟨rfl,rfl,rfl,rfl⟩|⟨rfl,rfl,rfl,rfl⟩|⟨rfl,rfl,rfl,rfl⟩|⟨rfl,rfl,rfl,rfl⟩|⟨rfl,rfl,rfl,rfl⟩
 all_goals
  first
   |(go_enter Tryz.func97,Tryz.ntmps97;go_upto_region 1 with fail;generalize (((w.alloc (Qc #[Qp (some ⟨g,0,none⟩)] 135)).alloc (Qc #[V p n c] 22)).alloc (Qc #[.func (.func k) #[] #[Qp (some ⟨bw,0,none⟩)]] 139))=w0 at *)
   |(go_enter Tryz.func100,Tryz.ntmps100;go_upto_region 1 with fail;generalize (((w.alloc (Qc #[Qp (some ⟨g,0,none⟩)] 135)).alloc (Qc #[V p n c] 23)).alloc (Qc #[.func (.func k) #[] #[Qp (some ⟨bw,0,none⟩)]] 141))=w0 at *)
   |(go_enter Tryz.func103,Tryz.ntmps103;go_upto_region 1 with fail;generalize (((w.alloc (Qc #[Qp (some ⟨g,0,none⟩)] 135)).alloc (Qc #[V p n c] 24)).alloc (Qc #[.func (.func k) #[] #[Qp (some ⟨bw,0,none⟩)]] 144))=w0 at *)
   |(go_enter Tryz.func106,Tryz.ntmps106;go_upto_region 1 with fail;generalize (((w.alloc (Qc #[Qp (some ⟨g,0,none⟩)] 135)).alloc (Qc #[V p n c] 25)).alloc (Qc #[.func (.func k) #[] #[Qp (some ⟨bw,0,none⟩)]] 146))=w0 at *)
   |(go_enter Tryz.func109,Tryz.ntmps109;go_upto_region 1 with fail;generalize (((w.alloc (Qc #[Qp (some ⟨g,0,none⟩)] 135)).alloc (Qc #[V p n c] 26)).alloc (Qc #[.func (.func k) #[] #[Qp (some ⟨bw,0,none⟩)]] 148))=w0 at *)
   |(go_enter Tryz.func112,Tryz.ntmps112;go_upto_region 1 with fail;generalize (((w.alloc (Qc #[Qp (some ⟨g,0,none⟩)] 135)).alloc (Qc #[V p n c] 27)).alloc (Qc #[.func (.func k) #[] #[Qp (some ⟨bw,0,none⟩)]] 150))=w0 at *)
   |(go_enter Tryz.func115,Tryz.ntmps115;go_upto_region 1 with fail;generalize (((w.alloc (Qc #[Qp (some ⟨g,0,none⟩)] 135)).alloc (Qc #[V p n c] 28)).alloc (Qc #[.func (.func k) #[] #[Qp (some ⟨bw,0,none⟩)]] 152))=w0 at *)
   |(go_enter Tryz.func120,Tryz.ntmps120;go_upto_region 1 with fail;generalize (((w.alloc (Qc #[Qp (some ⟨g,0,none⟩)] 135)).alloc (Qc #[V p n c] 29)).alloc (Qc #[.func (.func k) #[] #[Qp (some ⟨bw,0,none⟩)]] 155))=w0 at *)
   |(go_enter Tryz.func126,Tryz.ntmps126;go_upto_region 1 with fail;generalize (((w.alloc (Qc #[Qp (some ⟨g,0,none⟩)] 135)).alloc (Qc #[V p n c] 30)).alloc (Qc #[.func (.func k) #[] #[Qp (some ⟨bw,0,none⟩)]] 157))=w0 at *)
  generalize w.heap.size=gx at *
  have y2:=HC2.out.at (k:=0) (v:=V p n c) rfl
  have y1:=HC1.out.at (k:=0) (v:=Qp (some ⟨g,0,none⟩)) rfl
  go_wp2_with (go_at_call 118;(with_reducible refine HC.out.mono ?_);rintro e w1 ⟨rfl,hw',hf⟩;have HW4:=hid hw';have HF4:=hid (HF3.out.trans hf);clear hw' hf)
  (first|go_end0|refine bodyPost_ret (results_none rfl _ _ _) rfl ?_)
  exact ⟨rfl,.inl HW4.out,HF4.out⟩
theorem row_own {L B g:Nat} {W:World} {p:Option Addr} {n blk off N:Nat} {cs:Nat→List Value} (hr:RowM L W p n blk off N cs) (hL:L≤lo B g) (hw:WR B g [] W) (h:n≠0):p=some ⟨blk,off,none⟩∧NW B g W blk:=⟨(hr.2.1 h).1,by
 have a1:=(hr.2.1 h).2
 have a2:=lo_g B g
 have a3:=lo_B B g
 have a4:=hw.1
 exact ⟨by omega,by omega,.inl (by omega)⟩⟩
theorem sec_Typ (B g bw k L:Nat) (eg:∀args w,(callFunc k args).run QP w=.ok (.enter k args) w) (id:Int) (P:Nat→List UInt8) (p:Option Addr) (n c blk off:Nat) (E:Nat→ETyp) (w:World) (hL:L≤lo B g) (hr:RowM L w p n blk off 2 (fun i=>(E i).cs))
  (hP:∀B' i,i<n→B≤B'→∀bs W,FR B g w W→WR B' g bs W→bs.length≤3000000000000→Calls QP k #[.agg #[V (E i).pa (E i).a.length (E i).ca,V (E i).pb (E i).b.length (E i).cb],Qp (some ⟨bw,0,none⟩)] W fun e w'=>e=Qr (.tuple #[])∧WR B' g (bs++P i) w'∧FR B' g W w')
  (hX:(flB n P).length≤1000000000000) (bs:List UInt8) (hw:WR0 B g bs w) (hn:bs.length≤90000000000000) :
  Calls QP 97 #[Qp (some ⟨g,0,none⟩),I J id,V p n c,.func (.func k) #[] #[Qp (some ⟨bw,0,none⟩)]] w fun e w'=>e=Qr (.tuple #[])∧WR0 B g (bs++secL id n (flB n P)) w'∧FR B g w w' :=
 sec_any 97 167 22 139 (.inl ⟨rfl,rfl,rfl,rfl⟩) B g bw k id P p n c hr.1 w bs (sec_pre B g bw k L 167 22 139 2 (fun i=>(E i).cs) (by decide) (by decide) (fun _ _=>rfl) id P p n c blk off w hL hr (fun B' b1 b2 b3 W hLL hr' a1 a2 a3 hBB hF hW=>lin_any 167 168 22 139 (.inl ⟨rfl,rfl,rfl,rfl⟩) B' g b1 b2 b3 bw k _ p n c W a1 a2 a3
  (wl_Typ B' g k eg bw P n blk off c p (fun i=>(E i).pa) (fun i=>(E i).a.length) (fun i=>(E i).ca) (fun i=>(E i).pb) (fun i=>(E i).b.length) (fun i=>(E i).cb) W hr'.1 (row_own hr' hLL hW) (fun i hi=>⟨hr'.2.2 i hi 0 _ rfl,hr'.2.2 i hi 1 _ rfl⟩) (fun i hi bs' W' hF' hW' hl'=>hP B' i hi hBB bs' W' (hF.trans (hF'.lower hBB)) hW' hl') [] hW (by have:=uI_len n;simp only[QN];omega))) hX bs hw hn)
theorem sec_Imp (B g bw k L:Nat) (eg:∀args w,(callFunc k args).run QP w=.ok (.enter k args) w) (id:Int) (P:Nat→List UInt8) (p:Option Addr) (n c blk off:Nat) (E:Nat→EImp) (w:World) (hL:L≤lo B g) (hr:RowM L w p n blk off 13 (fun i=>(E i).cs))
  (hP:∀B' i,i<n→B≤B'→∀bs W,FR B g w W→WR B' g bs W→bs.length≤3000000000000→Calls QP k #[.agg #[Qs (E i).s0,Qs (E i).s1,I J (E i).kd,I J (E i).ty,I J (E i).tr,I J (E i).tmn,I J (E i).tmx,G (E i).th,I J (E i).mmn,I J (E i).mmx,G (E i).mh,I J (E i).gt,G (E i).gm],Qp (some ⟨bw,0,none⟩)] W fun e w'=>e=Qr (.tuple #[])∧WR B' g (bs++P i) w'∧FR B' g W w')
  (hX:(flB n P).length≤1000000000000) (bs:List UInt8) (hw:WR0 B g bs w) (hn:bs.length≤90000000000000) :
  Calls QP 100 #[Qp (some ⟨g,0,none⟩),I J id,V p n c,.func (.func k) #[] #[Qp (some ⟨bw,0,none⟩)]] w fun e w'=>e=Qr (.tuple #[])∧WR0 B g (bs++secL id n (flB n P)) w'∧FR B g w w' :=
 sec_any 100 171 23 141 (.inr (.inl ⟨rfl,rfl,rfl,rfl⟩)) B g bw k id P p n c hr.1 w bs (sec_pre B g bw k L 171 23 141 13 (fun i=>(E i).cs) (by decide) (by decide) (fun _ _=>rfl) id P p n c blk off w hL hr (fun B' b1 b2 b3 W hLL hr' a1 a2 a3 hBB hF hW=>lin_any 171 172 23 141 (.inr (.inl ⟨rfl,rfl,rfl,rfl⟩)) B' g b1 b2 b3 bw k _ p n c W a1 a2 a3
  (wl_Imp B' g k eg bw P n blk off c p (fun i=>(E i).s0) (fun i=>(E i).s1) (fun i=>(E i).kd) (fun i=>(E i).ty) (fun i=>(E i).tr) (fun i=>(E i).tmn) (fun i=>(E i).tmx) (fun i=>(E i).th) (fun i=>(E i).mmn) (fun i=>(E i).mmx) (fun i=>(E i).mh) (fun i=>(E i).gt) (fun i=>(E i).gm) W hr'.1 (row_own hr' hLL hW) (fun i hi=>⟨hr'.2.2 i hi 0 _ rfl,hr'.2.2 i hi 1 _ rfl,hr'.2.2 i hi 2 _ rfl,hr'.2.2 i hi 3 _ rfl,hr'.2.2 i hi 4 _ rfl,hr'.2.2 i hi 5 _ rfl,hr'.2.2 i hi 6 _ rfl,hr'.2.2 i hi 7 _ rfl,hr'.2.2 i hi 8 _ rfl,hr'.2.2 i hi 9 _ rfl,hr'.2.2 i hi 10 _ rfl,hr'.2.2 i hi 11 _ rfl,hr'.2.2 i hi 12 _ rfl⟩) (fun i hi bs' W' hF' hW' hl'=>hP B' i hi hBB bs' W' (hF.trans (hF'.lower hBB)) hW' hl') [] hW (by have:=uI_len n;simp only[QN];omega))) hX bs hw hn)
theorem sec_Fun (B g bw k L:Nat) (eg:∀args w,(callFunc k args).run QP w=.ok (.enter k args) w) (id:Int) (P:Nat→List UInt8) (p:Option Addr) (n c blk off:Nat) (E:Nat→EFun) (w:World) (hL:L≤lo B g) (hr:RowM L w p n blk off 3 (fun i=>(E i).cs))
  (hP:∀B' i,i<n→B≤B'→∀bs W,FR B g w W→WR B' g bs W→bs.length≤3000000000000→Calls QP k #[.agg #[I J (E i).ty,V (E i).pl (E i).l.length (E i).cl,V (E i).pf (E i).f.len (E i).cf],Qp (some ⟨bw,0,none⟩)] W fun e w'=>e=Qr (.tuple #[])∧WR B' g (bs++P i) w'∧FR B' g W w')
  (hX:(flB n P).length≤1000000000000) (bs:List UInt8) (hw:WR0 B g bs w) (hn:bs.length≤90000000000000) :
  Calls QP 103 #[Qp (some ⟨g,0,none⟩),I J id,V p n c,.func (.func k) #[] #[Qp (some ⟨bw,0,none⟩)]] w fun e w'=>e=Qr (.tuple #[])∧WR0 B g (bs++secL id n (flB n P)) w'∧FR B g w w' :=
 sec_any 103 175 24 144 (.inr (.inr (.inl ⟨rfl,rfl,rfl,rfl⟩))) B g bw k id P p n c hr.1 w bs (sec_pre B g bw k L 175 24 144 3 (fun i=>(E i).cs) (by decide) (by decide) (fun _ _=>rfl) id P p n c blk off w hL hr (fun B' b1 b2 b3 W hLL hr' a1 a2 a3 hBB hF hW=>lin_any 175 176 24 144 (.inr (.inr (.inl ⟨rfl,rfl,rfl,rfl⟩))) B' g b1 b2 b3 bw k _ p n c W a1 a2 a3
  (wl_Fun B' g k eg bw P n blk off c p (fun i=>(E i).ty) (fun i=>(E i).pl) (fun i=>(E i).l.length) (fun i=>(E i).cl) (fun i=>(E i).pf) (fun i=>(E i).f.len) (fun i=>(E i).cf) W hr'.1 (row_own hr' hLL hW) (fun i hi=>⟨hr'.2.2 i hi 0 _ rfl,hr'.2.2 i hi 1 _ rfl,hr'.2.2 i hi 2 _ rfl⟩) (fun i hi bs' W' hF' hW' hl'=>hP B' i hi hBB bs' W' (hF.trans (hF'.lower hBB)) hW' hl') [] hW (by have:=uI_len n;simp only[QN];omega))) hX bs hw hn)
theorem sec_Tab (B g bw k L:Nat) (eg:∀args w,(callFunc k args).run QP w=.ok (.enter k args) w) (id:Int) (P:Nat→List UInt8) (p:Option Addr) (n c blk off:Nat) (E:Nat→ETab) (w:World) (hL:L≤lo B g) (hr:RowM L w p n blk off 4 (fun i=>(E i).cs))
  (hP:∀B' i,i<n→B≤B'→∀bs W,FR B g w W→WR B' g bs W→bs.length≤3000000000000→Calls QP k #[.agg #[I J (E i).r,I J (E i).mn,I J (E i).mx,G (E i).h],Qp (some ⟨bw,0,none⟩)] W fun e w'=>e=Qr (.tuple #[])∧WR B' g (bs++P i) w'∧FR B' g W w')
  (hX:(flB n P).length≤1000000000000) (bs:List UInt8) (hw:WR0 B g bs w) (hn:bs.length≤90000000000000) :
  Calls QP 106 #[Qp (some ⟨g,0,none⟩),I J id,V p n c,.func (.func k) #[] #[Qp (some ⟨bw,0,none⟩)]] w fun e w'=>e=Qr (.tuple #[])∧WR0 B g (bs++secL id n (flB n P)) w'∧FR B g w w' :=
 sec_any 106 178 25 146 (.inr (.inr (.inr (.inl ⟨rfl,rfl,rfl,rfl⟩)))) B g bw k id P p n c hr.1 w bs (sec_pre B g bw k L 178 25 146 4 (fun i=>(E i).cs) (by decide) (by decide) (fun _ _=>rfl) id P p n c blk off w hL hr (fun B' b1 b2 b3 W hLL hr' a1 a2 a3 hBB hF hW=>lin_any 178 179 25 146 (.inr (.inr (.inr (.inl ⟨rfl,rfl,rfl,rfl⟩)))) B' g b1 b2 b3 bw k _ p n c W a1 a2 a3
  (wl_Tab B' g k eg bw P n blk off c p (fun i=>(E i).r) (fun i=>(E i).mn) (fun i=>(E i).mx) (fun i=>(E i).h) W hr'.1 (row_own hr' hLL hW) (fun i hi=>⟨hr'.2.2 i hi 0 _ rfl,hr'.2.2 i hi 1 _ rfl,hr'.2.2 i hi 2 _ rfl,hr'.2.2 i hi 3 _ rfl⟩) (fun i hi bs' W' hF' hW' hl'=>hP B' i hi hBB bs' W' (hF.trans (hF'.lower hBB)) hW' hl') [] hW (by have:=uI_len n;simp only[QN];omega))) hX bs hw hn)
theorem sec_Lim (B g bw k L:Nat) (eg:∀args w,(callFunc k args).run QP w=.ok (.enter k args) w) (id:Int) (P:Nat→List UInt8) (p:Option Addr) (n c blk off:Nat) (E:Nat→ELim) (w:World) (hL:L≤lo B g) (hr:RowM L w p n blk off 3 (fun i=>(E i).cs))
  (hP:∀B' i,i<n→B≤B'→∀bs W,FR B g w W→WR B' g bs W→bs.length≤3000000000000→Calls QP k #[.agg #[I J (E i).mn,I J (E i).mx,G (E i).h],Qp (some ⟨bw,0,none⟩)] W fun e w'=>e=Qr (.tuple #[])∧WR B' g (bs++P i) w'∧FR B' g W w')
  (hX:(flB n P).length≤1000000000000) (bs:List UInt8) (hw:WR0 B g bs w) (hn:bs.length≤90000000000000) :
  Calls QP 109 #[Qp (some ⟨g,0,none⟩),I J id,V p n c,.func (.func k) #[] #[Qp (some ⟨bw,0,none⟩)]] w fun e w'=>e=Qr (.tuple #[])∧WR0 B g (bs++secL id n (flB n P)) w'∧FR B g w w' :=
 sec_any 109 180 26 148 (.inr (.inr (.inr (.inr (.inl ⟨rfl,rfl,rfl,rfl⟩))))) B g bw k id P p n c hr.1 w bs (sec_pre B g bw k L 180 26 148 3 (fun i=>(E i).cs) (by decide) (by decide) (fun _ _=>rfl) id P p n c blk off w hL hr (fun B' b1 b2 b3 W hLL hr' a1 a2 a3 hBB hF hW=>lin_any 180 181 26 148 (.inr (.inr (.inr (.inr (.inl ⟨rfl,rfl,rfl,rfl⟩))))) B' g b1 b2 b3 bw k _ p n c W a1 a2 a3
  (wl_Lim B' g k eg bw P n blk off c p (fun i=>(E i).mn) (fun i=>(E i).mx) (fun i=>(E i).h) W hr'.1 (row_own hr' hLL hW) (fun i hi=>⟨hr'.2.2 i hi 0 _ rfl,hr'.2.2 i hi 1 _ rfl,hr'.2.2 i hi 2 _ rfl⟩) (fun i hi bs' W' hF' hW' hl'=>hP B' i hi hBB bs' W' (hF.trans (hF'.lower hBB)) hW' hl') [] hW (by have:=uI_len n;simp only[QN];omega))) hX bs hw hn)
theorem sec_Glo (B g bw k L:Nat) (eg:∀args w,(callFunc k args).run QP w=.ok (.enter k args) w) (id:Int) (P:Nat→List UInt8) (p:Option Addr) (n c blk off:Nat) (E:Nat→EGlo) (w:World) (hL:L≤lo B g) (hr:RowM L w p n blk off 3 (fun i=>(E i).cs))
  (hP:∀B' i,i<n→B≤B'→∀bs W,FR B g w W→WR B' g bs W→bs.length≤3000000000000→Calls QP k #[.agg #[I J (E i).t,G (E i).m,V (E i).pf (E i).f.len (E i).cf],Qp (some ⟨bw,0,none⟩)] W fun e w'=>e=Qr (.tuple #[])∧WR B' g (bs++P i) w'∧FR B' g W w')
  (hX:(flB n P).length≤1000000000000) (bs:List UInt8) (hw:WR0 B g bs w) (hn:bs.length≤90000000000000) :
  Calls QP 112 #[Qp (some ⟨g,0,none⟩),I J id,V p n c,.func (.func k) #[] #[Qp (some ⟨bw,0,none⟩)]] w fun e w'=>e=Qr (.tuple #[])∧WR0 B g (bs++secL id n (flB n P)) w'∧FR B g w w' :=
 sec_any 112 183 27 150 (.inr (.inr (.inr (.inr (.inr (.inl ⟨rfl,rfl,rfl,rfl⟩)))))) B g bw k id P p n c hr.1 w bs (sec_pre B g bw k L 183 27 150 3 (fun i=>(E i).cs) (by decide) (by decide) (fun _ _=>rfl) id P p n c blk off w hL hr (fun B' b1 b2 b3 W hLL hr' a1 a2 a3 hBB hF hW=>lin_any 183 184 27 150 (.inr (.inr (.inr (.inr (.inr (.inl ⟨rfl,rfl,rfl,rfl⟩)))))) B' g b1 b2 b3 bw k _ p n c W a1 a2 a3
  (wl_Glo B' g k eg bw P n blk off c p (fun i=>(E i).t) (fun i=>(E i).m) (fun i=>(E i).pf) (fun i=>(E i).f.len) (fun i=>(E i).cf) W hr'.1 (row_own hr' hLL hW) (fun i hi=>⟨hr'.2.2 i hi 0 _ rfl,hr'.2.2 i hi 1 _ rfl,hr'.2.2 i hi 2 _ rfl⟩) (fun i hi bs' W' hF' hW' hl'=>hP B' i hi hBB bs' W' (hF.trans (hF'.lower hBB)) hW' hl') [] hW (by have:=uI_len n;simp only[QN];omega))) hX bs hw hn)
theorem sec_Exp (B g bw k L:Nat) (eg:∀args w,(callFunc k args).run QP w=.ok (.enter k args) w) (id:Int) (P:Nat→List UInt8) (p:Option Addr) (n c blk off:Nat) (E:Nat→EExp) (w:World) (hL:L≤lo B g) (hr:RowM L w p n blk off 3 (fun i=>(E i).cs))
  (hP:∀B' i,i<n→B≤B'→∀bs W,FR B g w W→WR B' g bs W→bs.length≤3000000000000→Calls QP k #[.agg #[Qs (E i).s,I J (E i).k,I J (E i).ix],Qp (some ⟨bw,0,none⟩)] W fun e w'=>e=Qr (.tuple #[])∧WR B' g (bs++P i) w'∧FR B' g W w')
  (hX:(flB n P).length≤1000000000000) (bs:List UInt8) (hw:WR0 B g bs w) (hn:bs.length≤90000000000000) :
  Calls QP 115 #[Qp (some ⟨g,0,none⟩),I J id,V p n c,.func (.func k) #[] #[Qp (some ⟨bw,0,none⟩)]] w fun e w'=>e=Qr (.tuple #[])∧WR0 B g (bs++secL id n (flB n P)) w'∧FR B g w w' :=
 sec_any 115 185 28 152 (.inr (.inr (.inr (.inr (.inr (.inr (.inl ⟨rfl,rfl,rfl,rfl⟩))))))) B g bw k id P p n c hr.1 w bs (sec_pre B g bw k L 185 28 152 3 (fun i=>(E i).cs) (by decide) (by decide) (fun _ _=>rfl) id P p n c blk off w hL hr (fun B' b1 b2 b3 W hLL hr' a1 a2 a3 hBB hF hW=>lin_any 185 186 28 152 (.inr (.inr (.inr (.inr (.inr (.inr (.inl ⟨rfl,rfl,rfl,rfl⟩))))))) B' g b1 b2 b3 bw k _ p n c W a1 a2 a3
  (wl_Exp B' g k eg bw P n blk off c p (fun i=>(E i).s) (fun i=>(E i).k) (fun i=>(E i).ix) W hr'.1 (row_own hr' hLL hW) (fun i hi=>⟨hr'.2.2 i hi 0 _ rfl,hr'.2.2 i hi 1 _ rfl,hr'.2.2 i hi 2 _ rfl⟩) (fun i hi bs' W' hF' hW' hl'=>hP B' i hi hBB bs' W' (hF.trans (hF'.lower hBB)) hW' hl') [] hW (by have:=uI_len n;simp only[QN];omega))) hX bs hw hn)
theorem sec_Elm (B g bw k L:Nat) (eg:∀args w,(callFunc k args).run QP w=.ok (.enter k args) w) (id:Int) (P:Nat→List UInt8) (p:Option Addr) (n c blk off:Nat) (E:Nat→EElm) (w:World) (hL:L≤lo B g) (hr:RowM L w p n blk off 5 (fun i=>(E i).cs))
  (hP:∀B' i,i<n→B≤B'→∀bs W,FR B g w W→WR B' g bs W→bs.length≤3000000000000→Calls QP k #[.agg #[I J (E i).r,I J (E i).m,I J (E i).t,V (E i).pf (E i).f.len (E i).cf,V (E i).pg (E i).ng (E i).cg],Qp (some ⟨bw,0,none⟩)] W fun e w'=>e=Qr (.tuple #[])∧WR B' g (bs++P i) w'∧FR B' g W w')
  (hX:(flB n P).length≤1000000000000) (bs:List UInt8) (hw:WR0 B g bs w) (hn:bs.length≤90000000000000) :
  Calls QP 120 #[Qp (some ⟨g,0,none⟩),I J id,V p n c,.func (.func k) #[] #[Qp (some ⟨bw,0,none⟩)]] w fun e w'=>e=Qr (.tuple #[])∧WR0 B g (bs++secL id n (flB n P)) w'∧FR B g w w' :=
 sec_any 120 188 29 155 (.inr (.inr (.inr (.inr (.inr (.inr (.inr (.inl ⟨rfl,rfl,rfl,rfl⟩)))))))) B g bw k id P p n c hr.1 w bs (sec_pre B g bw k L 188 29 155 5 (fun i=>(E i).cs) (by decide) (by decide) (fun _ _=>rfl) id P p n c blk off w hL hr (fun B' b1 b2 b3 W hLL hr' a1 a2 a3 hBB hF hW=>lin_any 188 189 29 155 (.inr (.inr (.inr (.inr (.inr (.inr (.inr (.inl ⟨rfl,rfl,rfl,rfl⟩)))))))) B' g b1 b2 b3 bw k _ p n c W a1 a2 a3
  (wl_Elm B' g k eg bw P n blk off c p (fun i=>(E i).r) (fun i=>(E i).m) (fun i=>(E i).t) (fun i=>(E i).pf) (fun i=>(E i).f.len) (fun i=>(E i).cf) (fun i=>(E i).pg) (fun i=>(E i).ng) (fun i=>(E i).cg) W hr'.1 (row_own hr' hLL hW) (fun i hi=>⟨hr'.2.2 i hi 0 _ rfl,hr'.2.2 i hi 1 _ rfl,hr'.2.2 i hi 2 _ rfl,hr'.2.2 i hi 3 _ rfl,hr'.2.2 i hi 4 _ rfl⟩) (fun i hi bs' W' hF' hW' hl'=>hP B' i hi hBB bs' W' (hF.trans (hF'.lower hBB)) hW' hl') [] hW (by have:=uI_len n;simp only[QN];omega))) hX bs hw hn)
theorem sec_Dat (B g bw k L:Nat) (eg:∀args w,(callFunc k args).run QP w=.ok (.enter k args) w) (id:Int) (P:Nat→List UInt8) (p:Option Addr) (n c blk off:Nat) (E:Nat→EDat) (w:World) (hL:L≤lo B g) (hr:RowM L w p n blk off 4 (fun i=>(E i).cs))
  (hP:∀B' i,i<n→B≤B'→∀bs W,FR B g w W→WR B' g bs W→bs.length≤3000000000000→Calls QP k #[.agg #[I J (E i).m,I J (E i).t,V (E i).pf (E i).f.len (E i).cf,V (E i).pb (E i).b.length (E i).cb],Qp (some ⟨bw,0,none⟩)] W fun e w'=>e=Qr (.tuple #[])∧WR B' g (bs++P i) w'∧FR B' g W w')
  (hX:(flB n P).length≤1000000000000) (bs:List UInt8) (hw:WR0 B g bs w) (hn:bs.length≤90000000000000) :
  Calls QP 126 #[Qp (some ⟨g,0,none⟩),I J id,V p n c,.func (.func k) #[] #[Qp (some ⟨bw,0,none⟩)]] w fun e w'=>e=Qr (.tuple #[])∧WR0 B g (bs++secL id n (flB n P)) w'∧FR B g w w' :=
 sec_any 126 198 30 157 (.inr (.inr (.inr (.inr (.inr (.inr (.inr (.inr ⟨rfl,rfl,rfl,rfl⟩)))))))) B g bw k id P p n c hr.1 w bs (sec_pre B g bw k L 198 30 157 4 (fun i=>(E i).cs) (by decide) (by decide) (fun _ _=>rfl) id P p n c blk off w hL hr (fun B' b1 b2 b3 W hLL hr' a1 a2 a3 hBB hF hW=>lin_any 198 199 30 157 (.inr (.inr (.inr (.inr (.inr (.inr (.inr (.inr ⟨rfl,rfl,rfl,rfl⟩)))))))) B' g b1 b2 b3 bw k _ p n c W a1 a2 a3
  (wl_Dat B' g k eg bw P n blk off c p (fun i=>(E i).m) (fun i=>(E i).t) (fun i=>(E i).pf) (fun i=>(E i).f.len) (fun i=>(E i).cf) (fun i=>(E i).pb) (fun i=>(E i).b.length) (fun i=>(E i).cb) W hr'.1 (row_own hr' hLL hW) (fun i hi=>⟨hr'.2.2 i hi 0 _ rfl,hr'.2.2 i hi 1 _ rfl,hr'.2.2 i hi 2 _ rfl,hr'.2.2 i hi 3 _ rfl⟩) (fun i hi bs' W' hF' hW' hl'=>hP B' i hi hBB bs' W' (hF.trans (hF'.lower hBB)) hW' hl') [] hW (by have:=uI_len n;simp only[QN];omega))) hX bs hw hn)
theorem kn_range (op:Int) (h:knB (lineL op)=true):0≤op∧op<65024:=by
 rcases Classical.em (0≤op∧op<65024) with hr|hr
 ·exact hr
 have:lineL op=ln0:=by
  unfold lineL
  by_cases h0:op<0
  ·rw[if_pos h0]
  rw[if_neg h0,if_neg (by omega),if_neg (by omega),if_neg (by omega)]
 rw[this,show knB ln0=false by kernel_rfl]at h
 cases h
theorem ok_block (op a b:Int) (n h:Nat) (l:List Int) (ot:Bool) (nb ne:Nat) (hi:insB op a b n h l ot nb ne=true) (hk:(lineL op).2.1=1):a=0∨a=1∨a=2:=by
 unfold insB at hi
 rw[hk]at hi
 simp only[okB,if_pos,Bool.and_eq_true]at hi
 obtain ⟨_,h2⟩:=hi
 unfold blB at h2
 by_cases h0:a=0
 ·exact .inl h0
 by_cases h1:a=1
 ·exact .inr (.inl h1)
 by_cases h2':a=2
 ·exact .inr (.inr h2')
 exfalso
 simp[h0,h1,h2']at h2
theorem okE_of:∀f:Fo,onesB f=true→RN f→okE f
 |.nil,_,_=>trivial
 |.cons op a b n h l ot body els rest,h1,h2=>by
  simp only[onesB,Bool.and_eq_true]at h1
  obtain ⟨⟨⟨hi,hb⟩,he⟩,hr⟩:=h1
  obtain ⟨ra,rb,rl,rbo,rel,rre,rn,rh⟩:=h2
  have hk:knB (lineL op)=true:=by
   have:=hi
   unfold insB at this
   exact (Bool.and_eq_true _ _▸this:_∧_).1
  exact ⟨⟨(kn_range op hk).1,(kn_range op hk).2,rn,rh,rb,ok_block op a b n h l ot _ _ hi⟩,okE_of body hb rbo,okE_of els he rel,okE_of rest hr rre⟩
theorem okE_code (f:Fo) (h:codeB f=true) (hr:RN f):okE f:=by
 rw[code_eq,Bool.and_eq_true]at h
 exact okE_of f h.1 hr
theorem May_global (f:Fo) (hn:f.cnt<9223372036854775806) (p:Option Addr) (n c gv:Nat) (w:World) (hc:CA gv #[I J 127,G false,V p n c] 46 w) (hs:SA w.heap.size w (V p n c) f) :
  Calls QP 15 #[.agg #[V none 0 0,V none 0 0,V none 0 0,V none 0 0,V none 0 0,V (some ⟨gv,0,none⟩) 1 1,V none 0 0,I J 0,V none 0 0,V none 0 0,G false]] w fun e w'=>e=Qr (G (codeB f))∧Below w.heap.size w w':=by
 have hgv:∀W,Below w.heap.size w W→Calls QP 40 #[V (some ⟨gv,0,none⟩) 1 1,.func (.func 41) #[] #[]] W fun e w'=>e=Qr (G (codeB f))∧Below W.heap.size W w':=by
  intro W hW
  have hcW:=hc.below hW hc.lt
  have:=all_var 41 (fun _ _=>rfl) (fun _=>valB 127&&codeB f) 1 gv 0 1 (fun _=>127) (fun _=>false) (fun _=>p) (fun _=>n) (fun _=>c) W (fun _=>hcW.lt) (by decide) (some ⟨gv,0,none⟩) (fun _=>rfl)
   (fun i hi=>by
    obtain rfl:i=0:=by omega
    exact ⟨hcW.at rfl,hcW.at rfl,hcW.at rfl⟩)
   (fun i hi W' hW'=>isGlobal_says 127 false f p n c w.heap.size W' hn (Qk hW.size hW'.size) (SA.below hs (hW.trans (hW'.mono hW.size))))
  simpa[show valB 127=true from rfl,List.range_succ]using this
 have key:=MayG_says none none none none none (some ⟨gv,0,none⟩) none none none 0 0 0 0 0 0 0 0 0 0 1 1 0 0 0 0 0 0 true true true true true (codeB f) true true true true true false 0 w
  (fun W _=>(all_nil_22 31 none 0 W).mono fun e w' h=>⟨h.1,h.2▸QB _ _⟩)
  (fun W _=>(all_nil_24 33 none 0 W).mono fun e w' h=>⟨h.1,h.2▸QB _ _⟩)
  (fun W _=>(all_nil_26 35 none 0 W).mono fun e w' h=>⟨h.1,h.2▸QB _ _⟩)
  (fun W _=>(all_nil_28 37 none 0 W).mono fun e w' h=>⟨h.1,h.2▸QB _ _⟩)
  (fun W _=>(all_nil_30 39 none 0 W).mono fun e w' h=>⟨h.1,h.2▸QB _ _⟩)
  hgv
  (fun W _=>(all_nil_34 43 none 0 W).mono fun e w' h=>⟨h.1,h.2▸QB _ _⟩)
  (fun W=>isStart_says 0 W)
  (fun W _=>(all_nil_37 46 none 0 W).mono fun e w' h=>⟨h.1,h.2▸QB _ _⟩)
  (fun W _=>(all_nil_39 48 none 0 W).mono fun e w' h=>⟨h.1,h.2▸QB _ _⟩)
  (fun W _=>(all_nil_26 49 none 0 W).mono fun e w' h=>⟨h.1,h.2▸QB _ _⟩)
 simpa using key
theorem encCode_no (f:Fo) (hn:f.cnt<9223372036854775806) (v:Value) (w:World) (hs:SA w.heap.size w v f) (hc:codeB f=false) :
  Calls QP 25 #[v] w fun e w'=>e=Qr (.tuple #[V none 0 0,I J 1])∧Below w.heap.size w w':=by
 obtain ⟨p,c,g',o',rfl,_,_⟩:=id hs
 have hb1:=(QB w.heap.size w).alloc (Ql _) (Qc #[I J 127,G false,V p f.len c] 46)
 have hc1:=(CA.new w #[I J 127,G false,V p f.len c] 46)
 have hc2:=hc1.alloc (Qc #[V none 0 0,V none 0 0,V none 0 0,V none 0 0,V none 0 0,V (some ⟨w.heap.size,0,none⟩) 1 1,V none 0 0,I J 0,V none 0 0,V none 0 0,G false] 32)
 have hb2:=hb1.alloc (by rw[size_al];omega) (Qc #[V none 0 0,V none 0 0,V none 0 0,V none 0 0,V none 0 0,V (some ⟨w.heap.size,0,none⟩) 1 1,V none 0 0,I J 0,V none 0 0,V none 0 0,G false] 32)
 have HM:=hid (May_global f hn p f.len c w.heap.size _ hc2 (SA.mono (SA.below hs hb2) hb2.size))
 rw[hc]at HM
 have HB2:=hid hb2
 clear hb1 hc1 hc2 hb2 hs hn hc
 generalize f.len=m at *
 go_enter Tryz.func25,Tryz.ntmps25
 go_wp2_with (go_at_call 15;(with_reducible refine HM.out.mono ?_);rintro e w1 ⟨rfl,hb⟩;have HB3:=Qd HB2 hb;clear hb)
 go_ret2
 exact ⟨rfl,HB3.out⟩
theorem encCode_yes (f:Fo) (hn:f.cnt<9223372036854775806) (hok:okE f) (hsz:20+f.siz≤140737488355000) (v:Value) (w:World) (hs:SA w.heap.size w v f) (hc:codeB f=true) :
  Calls QP 25 #[v] w fun e w'=>∃p n c,e=Qr (.tuple #[V p n c,I J 0])∧w'.ownsRow w.heap.size 5 1 (V p n c) (f.enc++[11]).length (QY (f.enc++[11]))∧Below w.heap.size w w':=by
 obtain ⟨p,c,g',o',rfl,_,_⟩:=id hs
 have hb1:=(QB w.heap.size w).alloc (Ql _) (Qc #[I J 127,G false,V p f.len c] 46)
 have hc1:=(CA.new w #[I J 127,G false,V p f.len c] 46)
 have hc2:=hc1.alloc (Qc #[V none 0 0,V none 0 0,V none 0 0,V none 0 0,V none 0 0,V (some ⟨w.heap.size,0,none⟩) 1 1,V none 0 0,I J 0,V none 0 0,V none 0 0,G false] 32)
 have hb2:=hb1.alloc (by rw[size_al];omega) (Qc #[V none 0 0,V none 0 0,V none 0 0,V none 0 0,V none 0 0,V (some ⟨w.heap.size,0,none⟩) 1 1,V none 0 0,I J 0,V none 0 0,V none 0 0,G false] 32)
 have HM:=hid (May_global f hn p f.len c w.heap.size _ hc2 (SA.mono (SA.below hs hb2) hb2.size))
 rw[hc]at HM
 have HB2:=hid hb2
 have HC:=fun W (hW:Below w.heap.size w W)=>hid (code_says w.heap.size W.heap.size f hn hok (V p f.len c) [] (W.alloc (Qc #[V none 0 0] 137)) ⟨(by rw[size_al];have:=hW.size;omega),_,CA.new W #[V none 0 0] 137,World.ownsRow_nil _ _ _ _⟩ (SA.mono (SA.below hs (hW.alloc hW.size _)) (le_lo (Ql _) hW.size)) (by simpa using hsz))
 obtain ⟨E,hE⟩:∃E,E=f.enc++[11]:=⟨_,rfl⟩
 rw[←hE]at HC ⊢
 rw[List.nil_append]at HC
 clear hb1 hc1 hc2 hb2 hs hn hc hok hsz hE
 generalize f.len=m at *
 go_enter Tryz.func25,Tryz.ntmps25
 go_wp2_with (first
  |(go_at_call 15;(with_reducible refine HM.out.mono ?_);rintro e w1 ⟨rfl,hb⟩;have HB3:=Qd HB2 hb;clear hb)
  |(go_at_call 136;(with_reducible refine (HC _ HB3.out).out.mono ?_);rintro e w2 ⟨rfl,⟨hg,u,hcu,hou⟩,hf⟩;have HF:=hid (((FR.refl w.heap.size w1.heap.size w1).alloc _).trans hf);obtain ⟨pu,nu,cu,rfl⟩:=own_slice hou;have y0:=hcu.at (k:=0) (v:=V pu nu cu) rfl;have HOU:=hid hou;clear hg hcu hou hf))
 go_ret2
 exact ⟨pu,nu,cu,rfl,HOU.out,HB3.out.trans (HF.out.below HB3.out.size HB3.out.size)⟩
theorem RU_says (n:Int) (w:World):Calls QP 133 #[I J n] w (BO w (uI n)):=by
 obtain ⟨x,hx⟩:∃x:Nat,x=(n%18446744073709551616).toNat:=⟨_,rfl⟩
 have hxn:IntKind.u64.wrap n=(x:Int):=by rw[show IntKind.u64.wrap n=n%18446744073709551616 from rfl];omega
 have HU:=fun W=>hid (refU_any x (by omega) W)
 have HE:=hid (show uI n=ulist x by rw[hx];rfl)
 clear hx
 go_enter Tryz.func133,Tryz.ntmps133
 go_wp2_with (go_at_call 207;(with_reducible refine (HU _).out.mono ?_);rintro e w1 ⟨v,rfl,ho,hb⟩;have HO:=hid ho;have HB:=hid hb;clear ho hb)
 go_ret
 exact ⟨v,rfl,by rw[HE.out];exact HO.out,HB.out⟩
theorem listed_says (n:Int) (v:Value) (ys:List UInt8) (B:Nat) (w:World) (ho:w.ownsRow B 5 1 v ys.length (QY ys)) (hn:ys.length+20≤140737488355000):Calls QP 135 #[I J n,v] w (BO w (uI n++ys)):=by
 obtain ⟨p,m,c,rfl⟩:=own_slice ho
 have HO:=hid ho
 have HU:=fun W=>hid (RU_says n W)
 have HN:=hid (show (uI n).length+ys.length≤140737488355000 by have:=uI_len n;omega)
 clear ho hn
 go_enter Tryz.func135,Tryz.ntmps135
 go_wp2_with (first
  |(go_at_call 133;(with_reducible refine (HU _).out.mono ?_);rintro e w1 ⟨v1,rfl,ho1,hb1⟩;obtain ⟨p1,m1,c1,rfl⟩:=own_slice ho1;have HO1:=hid ho1;have HB1:=hid hb1;have HO2:=hid (own_kept HO.out hb1);clear ho1 hb1)
  |(at_builtin;refine append_rowW rfl _ _ rfl w.heap.size _ _ _ _ _ w HO1.out HO2.out HN.out (Ql _) (RF.of HB1.out) rfl rfl ?_;intro p3 m3 c3 w3 ho3 hf3;have HO3:=hid ho3;have HF3:=hid hf3;clear ho3 hf3))
 go_ret
 exact ⟨_,rfl,HO3.out,HF3.out.below (Ql _)⟩
theorem octets_says (l:List Int) (v:Value) (B:Nat) (w:World) (hl:LI B w v l) (hB:B≤w.heap.size) (hn:l.length+20≤140737488355000):Calls QP 202 #[v] w (BO w (l.map byI)):=by
 obtain ⟨p,c,rfl,hq,hc⟩:=hl
 obtain ⟨n,hnl⟩:∃n,n=l.length:=⟨_,rfl⟩
 have HNL:=hid hnl
 rw[←hnl]at hq hn ⊢
 have HP:=hid hc
 have HBW:=hid hB
 have HN:=hid hn
 have hn62:(n:Int)<9223372036854775807:=by omega
 clear hc hn hnl hq hB
 go_enter Tryz.func202,Tryz.ntmps202
 go_wp2
 go_loopw [3,4] (fun vo vi wr=>∃(i:Nat) (p:Option Addr) (m c:Nat),i≤n∧vi=I J i∧vo=V p m c∧Hid (wr.ownsRow w.heap.size 5 1 (V p m c) ((l.take i).map byI).length (QY ((l.take i).map byI)))∧Hid (RF w.heap.size w wr)) (fun _ vi _=>n-(intOf vi).toNat)
 case atStart=>exact ⟨0,none,0,0,Qz _,rfl,rfl,own_nil _ _,RF.refl _ _⟩
 obtain ⟨i,p1,m1,c1,hi,rfl,rfl,HR,HF⟩:=hrel
 by_cases hlt:i<n
 ·have hll:i<l.length:=by rw[←HNL.out];exact hlt
  obtain ⟨x,hx⟩:∃x,l[i]?=some x:=⟨l[i],List.getElem?_eq_getElem hll⟩
  obtain ⟨k,o,rfl,hk,hcell⟩:=HP.out (by intro e;rw[e]at hll;simp at hll)
  have z0:=hcell i x hx
  rw[←World.cell?_of_block (HF.out.block k (by have:=HBW.out;omega) (.inl (by have:=HBW.out;omega)))]at z0
  have HX:=hid (map_take_snoc l i x hx)
  have HLE:Hid (((l.take i).map byI).length+[byI x].length≤140737488355000):=by
   have:=HN.out
   simp only[Hid,List.length_map,List.length_take,QC,QN]
   omega
  clear hcell hx hk hll hi
  go_wp2_with (at_builtin;refine append_rowW rfl _ _ rfl w.heap.size _ _ _ _ _ w (own_kept HR.out ((QB _ _).alloc (Ql _) _)) (own_lit1 wr x) HLE.out (Ql _) (HF.out.alloc _) rfl rfl ?_;intro p3 m3 c3 w3 ho3 hf3;have HO3:=hid ho3;have HF3:=hid hf3;clear ho3 hf3)
  go_roundw
  case rel =>
   refine ⟨i+1,p3,m3,c3,hlt,by go_num,rfl,?_,HF3⟩
   rw[HX.out]
   exact HO3
  case measure=>simp[intOf];omega
 obtain rfl:i=n:=by omega
 have HE:=hid (show (l.take i).map byI=l.map byI by rw[HNL.out,List.take_length])
 rw[HE.out]at HR
 go_wp2
 go_ret
 exact ⟨_,rfl,HR.out,HF.out.below (Ql _)⟩
theorem low_any (k v:Nat) (hk:k≤100) (hv:v<18446744073709551616) (w:World) :
  Calls QP 248 #[I O (v:Nat),I J k] w (BO w (lowL k v)):=by
 have HV:=hid hv
 clear hv
 go_enter Tryz.func248,Tryz.ntmps248
 go_wp2
 go_loopw [0,5,6] (fun vn vo vi wr=>∃(i q:Nat) (pre:List UInt8) (p:Option Addr) (m c:Nat),i≤k∧vi=I J i∧vn=I O (q:Nat)∧vo=V p m c∧q<18446744073709551616∧Hid (pre.length=i∧lowL k v=pre++lowL (k-i) q)∧Hid (wr.ownsRow w.heap.size 5 1 (V p m c) pre.length (QY pre))∧Hid (RF w.heap.size w wr)) (fun _ _ vi _=>k-(intOf vi).toNat)
 case atStart=>exact ⟨0,v,[],none,0,0,Qz _,rfl,rfl,rfl,HV.out,⟨rfl,rfl⟩,own_nil _ _,RF.refl _ _⟩
 obtain ⟨i,q,pre,p1,m1,c1,hi,rfl,rfl,rfl,hq,HS,HR,HF⟩:=hrel
 by_cases hlt:i<k
 ·have HLE:Hid (pre.length+[byI q].length≤140737488355000):=by
   have:=HS.out.1
   simp only[Hid,QC,QN]
   omega
  have HNX:Hid (lowL k v=(pre++[byI q])++lowL (k-(i+1)) (q / 256)):=by
   have:=HS.out.2
   obtain ⟨j,hj⟩:∃j,k-i=j+1:=⟨k-i-1,by omega⟩
   rw[hj,lowL]at this
   rw[show k-(i+1)=j by omega,byI_cast]
   simpa[Hid]using this
  clear hi
  go_wp2_with (at_builtin;refine append_rowW rfl _ _ rfl w.heap.size _ _ _ _ _ w (own_kept HR.out ((QB _ _).alloc (Ql _) _)) (own_lit1 wr q) HLE.out (Ql _) (HF.out.alloc _) rfl rfl ?_;intro p3 m3 c3 w3 ho3 hf3;have HO3:=hid ho3;have HF3:=hid hf3;clear ho3 hf3)
  go_roundw
  case rel=>exact ⟨i+1,q / 256,pre++[byI q],p3,m3,c3,hlt,by go_num,by go_num,rfl,by omega,hid ⟨by simp[HS.out.1],HNX.out⟩,HO3,HF3⟩
  case measure=>simp[intOf];omega
 obtain rfl:i=k:=by omega
 have HE:=hid (show lowL i v=pre by rw[HS.out.2,Nat.sub_self,lowL,List.append_nil])
 go_wp2
 go_ret
 refine ⟨V p1 m1 c1,rfl,?_,HF.out.below (Ql _)⟩
 rw[HE.out]
 exact HR.out
theorem low_4 (v:Nat) (hv:v<18446744073709551616) (w:World):Calls QP 248 #[I O (v:Nat),I J 4] w (BO w (lowL 4 v)):=low_any 4 v (by omega) hv w
theorem low_8 (v:Nat) (hv:v<18446744073709551616) (w:World):Calls QP 248 #[I O (v:Nat),I J 8] w (BO w (lowL 8 v)):=low_any 8 v (by omega) hv w
def Okn (n:Nat):Prop:=n=8∨n=16∨n=32∨n=64
instance (n:Nat):Decidable (Okn n):=by unfold Okn;exact inferInstance
theorem Okn.le {n:Nat} (h:Okn n):8≤n∧n≤64:=by unfold Okn at h;omega
def sg (n a:Nat):Int:=if 2^(n-1)≤a then (a:Int)-(2^n:Nat) else a
theorem pow_lt64 {n:Nat} (hn:Okn n):2^(n-1)<18446744073709551616∧0<2^(n-1)∧2^n≤18446744073709551616∧2^n=2*2^(n-1):=by
 rcases hn with rfl|rfl|rfl|rfl<;>decide
theorem wrap_nat {q:Nat} (h:q<18446744073709551616):IntKind.u64.wrap (q:Int)=(q:Int):=by
 rw[IntKind.wrap_u64];omega
theorem testBit_top {n x:Nat} (hn:Okn n) (hx:x<2^n):x.testBit (n-1)=decide (2^(n-1)≤x):=by
 obtain ⟨_,_,_,h⟩:=pow_lt64 hn
 rw[h]at hx
 generalize hP:2^(n-1)=P at *
 rw[Nat.testBit_eq_decide_div_mod_eq,hP]
 by_cases hc:P≤x
 ·have:x / P=1:=by
   rw[Nat.div_eq_iff (by omega)];omega
  simp[this,hc]
 have:x / P=0:=Nat.div_eq_of_lt (by omega)
 simp[this,hc]
theorem neg_mod {n x:Nat} (hn:Okn n) (hx:x<2^n) (hc:2^(n-1)≤x):(18446744073709551616-x)%18446744073709551616%2^n=2^n-x:=by
 rcases hn with rfl|rfl|rfl|rfl<;>simp at hx hc ⊢<;>omega
theorem Right_yes (n:Nat) (hn:Okn n) (w:World):Calls QP 269 #[I J n] w fun e w'=>e=Qr (G true)∧w=w':=by
 rcases hn with rfl|rfl|rfl|rfl
 ·show Calls QP 269 #[I J 8] w _
  go_enter Tryz.func269,Tryz.ntmps269
  go_wp2
  go_ret
  exact ⟨rfl,rfl⟩
 ·show Calls QP 269 #[I J 16] w _
  go_enter Tryz.func269,Tryz.ntmps269
  go_wp2
  go_ret
  exact ⟨rfl,rfl⟩
 ·show Calls QP 269 #[I J 32] w _
  go_enter Tryz.func269,Tryz.ntmps269
  go_wp2
  go_ret
  exact ⟨rfl,rfl⟩
 show Calls QP 269 #[I J 64] w _
 go_enter Tryz.func269,Tryz.ntmps269
 go_wp2
 go_ret
 exact ⟨rfl,rfl⟩
theorem Cut_small (n:Nat) (hn:n<64) (a:Nat) (w:World) :
  Calls QP 270 #[I J n,I O a] w fun e w'=>e=Qr (I O ((a%2^n:Nat):Int))∧w=w':=by
 have hne:((n:Int)==64)=false:=by simp;omega
 obtain ⟨r,hrr⟩:∃r:Nat,r=a%2^n:=⟨_,rfl⟩
 rw[←hrr]
 have HR:=hid hrr
 clear hrr
 go_enter Tryz.func270,Tryz.ntmps270
 go_wp2
 go_loop [5,6] (fun vm vi=>∃k:Nat,k≤n∧vi=I J k∧vm=I O ((2^k:Nat):Int)) (fun _ vi=>n-(intOf vi).toNat)
 case atStart=>exact ⟨0,Qz _,rfl,rfl⟩
 obtain ⟨k,hk,rfl,rfl⟩:=hrel
 have hp0:=Nat.two_pow_pos k
 by_cases hlt:k<n
 ·have hp:2^k≤2^62:=Nat.pow_le_pow_right (by decide) (by omega)
  have hw:IntKind.u64.wrap (((2^k:Nat):Int)*2)=((2^(k+1):Nat):Int):=by
   rw[IntKind.wrap_u64,Nat.pow_succ];omega
  obtain ⟨m,hm⟩:∃m:Nat,m=2^k:=⟨_,rfl⟩
  rw[←hm]at hw ⊢
  clear hp hp0 hm
  go_wp2
  go_round
  case rel=>exact ⟨k+1,by omega,by go_num,rfl⟩
  case measure=>simp[intOf];omega
 obtain rfl:k=n:=by omega
 have hr:(a:Int)%((2^k:Nat):Int)=(r:Int):=by rw[HR.out];simp
 obtain ⟨m,hm⟩:∃m:Nat,m=2^k:=⟨_,rfl⟩
 rw[←hm]at hr hp0 ⊢
 have hm0:0<(m:Int):=by omega
 clear hm hp0
 go_wp2
 go_ret
 exact ⟨rfl,rfl⟩
theorem Cut_any (n:Nat) (hn:Okn n) (a:Nat) (ha:a<18446744073709551616) (w:World) :
  Calls QP 270 #[I J n,I O a] w fun e w'=>e=Qr (I O ((a%2^n:Nat):Int))∧w=w':=by
 by_cases h:n=64
 ·subst h
  rw[Nat.mod_eq_of_lt (show a<2^64 by omega)]
  show Calls QP 270 #[I J 64,I O a] w _
  go_enter Tryz.func270,Tryz.ntmps270
  go_wp2
  go_ret
  exact ⟨rfl,rfl⟩
 exact Cut_small n (by have:=hn.le;omega) a w
theorem bit_any (a k:Nat) (hk:k≤1000) (ha:a<18446744073709551616) (w:World) :
  Calls QP 271 #[I O a,I J k] w fun e w'=>e=Qr (I O ((a / 2^k%2:Nat):Int))∧w=w':=by
 obtain ⟨r,hrr⟩:∃r:Nat,r=a / 2^k%2:=⟨_,rfl⟩
 rw[←hrr]
 have HR:=hid hrr
 clear hrr
 go_enter Tryz.func271,Tryz.ntmps271
 go_wp2
 go_loop [0,5] (fun va vi=>∃j:Nat,j≤k∧vi=I J j∧va=I O ((a / 2^j:Nat):Int)) (fun _ vi=>k-(intOf vi).toNat)
 case atStart=>exact ⟨0,Qz _,rfl,by simp⟩
 obtain ⟨j,hj,rfl,rfl⟩:=hrel
 have hd:a / 2^j≤a:=Nat.div_le_self _ _
 by_cases hlt:j<k
 ·have hx:a / 2^(j+1)=a / 2^j / 2:=by rw[Nat.pow_succ,Nat.div_div_eq_div_mul]
  obtain ⟨x,hxe⟩:∃x:Nat,x=a / 2^j:=⟨_,rfl⟩
  rw[←hxe]at hd hx ⊢
  have hdiv:(x:Int) / 2=((x / 2:Nat):Int):=by simp
  rw[←hx]at hdiv
  have hww:=wrap_nat (show a / 2^(j+1)<18446744073709551616 by omega)
  clear hx hxe
  obtain ⟨y,hy⟩:∃y:Nat,y=a / 2^(j+1):=⟨_,rfl⟩
  rw[←hy]at hdiv hww
  have HY:=hid hy
  clear hy
  go_wp2
  go_round
  case rel=>exact ⟨j+1,by omega,by go_num,by rw[HY.out]⟩
  case measure=>simp[intOf];omega
 obtain rfl:j=k:=by omega
 obtain ⟨x,hxe⟩:∃x:Nat,x=a / 2^j:=⟨_,rfl⟩
 rw[←hxe]at hd ⊢
 have hr:(x:Int)%2=(r:Int):=by rw[HR.out,hxe];simp
 clear hxe
 go_wp2
 go_ret
 exact ⟨rfl,rfl⟩
theorem top_bit {n x:Nat} (hn:Okn n) (hx:x<2^n):x / 2^(n-1)%2=if 2^(n-1)≤x then 1 else 0:=by
 have h:=testBit_top hn hx
 rw[Nat.testBit_eq_decide_div_mod_eq]at h
 have:=decide_eq_decide.1 h
 split<;>omega
theorem RSigned_ok (n:Nat) (hn:Okn n) (a:Nat) (ha:a<18446744073709551616) (w:World) :
  Calls QP 247 #[I J n,I O a] w fun e w'=>e=Qr (I J (sg n (a%2^n)))∧w=w':=by
 obtain ⟨h1,h2,h3,h4⟩:=pow_lt64 hn
 have hn8:=hn.le
 have HK:=hid (Right_yes n hn w)
 have HX:=hid (Cut_any n hn a ha w)
 obtain ⟨x,hx⟩:∃x:Nat,x=a%2^n:=⟨_,rfl⟩
 have hxl:x<2^n:=by rw[hx];exact Nat.mod_lt _ (Nat.two_pow_pos n)
 rw[←hx]at HX ⊢
 have hc1:((n-1:Nat):Int)=(n:Int)-1:=by omega
 have hB:=bit_any x (n-1) (by omega) (by omega) w
 rw[hc1,top_bit hn hxl]at hB
 have hz:IntKind.u64.wrap (-(x:Int))=(((18446744073709551616-x)%18446744073709551616:Nat):Int):=by
  rw[IntKind.wrap_u64];omega
 by_cases hc:2^(n-1)≤x
 ·rw[if_pos hc]at hB
  have HB:Hid (Calls QP 271 #[I O x,I J ((n:Int)-1)] w fun e w'=>e=Qr (I O 1)∧w=w'):=hB
  have hC:=Cut_any n hn ((18446744073709551616-x)%18446744073709551616) (by omega) w
  rw[neg_mod hn hxl hc]at hC
  obtain ⟨z,hze⟩:∃z:Nat,z=(18446744073709551616-x)%18446744073709551616:=⟨_,rfl⟩
  obtain ⟨y,hy⟩:∃y:Nat,y=2^n-x:=⟨_,rfl⟩
  have hs:sg n x=-((y:Int)-1)-1:=by unfold sg;rw[if_pos hc];omega
  have hw1:IntKind.u64.wrap ((y:Int)-1)=((y-1:Nat):Int):=by rw[IntKind.wrap_u64];omega
  have hy1:y-1<9223372036854775808:=by omega
  have hcast:((y-1:Nat):Int)=(y:Int)-1:=by omega
  obtain ⟨t,ht⟩:∃t:Nat,t=y-1:=⟨_,rfl⟩
  rw[←hze,←hy]at hC
  rw[←hze]at hz
  rw[←ht]at hw1 hy1 hcast
  have hs2:sg n x=-(t:Int)-1:=by omega
  rw[hs2]
  have HC:=hid hC
  have HT:=hid hy1
  have hn1:-9223372036854775808≤-(t:Int)-1:=by omega
  have ht1:(t:Int)≤9223372036854775807:=by omega
  clear h1 h2 h3 h4 hn hxl hx hc1 hB hc hC hze hy hs ht hs2 hcast hy1
  go_enter Tryz.func247,Tryz.ntmps247
  go_wp2_with (first
   |(go_at_call 269;refine HK.out.mono ?_;rintro e w' ⟨rfl,rfl⟩)
   |(go_at_call 270;((with_reducible refine HX.out.mono ?_);rintro e w' ⟨rfl,rfl⟩))
   |(go_at_call 271;((with_reducible refine HB.out.mono ?_);rintro e w' ⟨rfl,rfl⟩))
   |(go_at_call 270;((with_reducible refine HC.out.mono ?_);rintro e w' ⟨rfl,rfl⟩)))
  go_ret
  exact ⟨ret_int (by first|rfl|(unfold wrap64;omega)),rfl⟩
 rw[if_neg hc]at hB
 have HB:Hid (Calls QP 271 #[I O x,I J ((n:Int)-1)] w fun e w'=>e=Qr (I O 0)∧w=w'):=hB
 have hs:sg n x=x:=by unfold sg;rw[if_neg hc]
 have hx1:(x:Int)≤9223372036854775807:=by omega
 rw[hs]
 clear h1 h2 h3 h4 hn hxl hx hc1 hB hc hs hz
 go_enter Tryz.func247,Tryz.ntmps247
 go_wp2_with (first
  |(go_at_call 269;refine HK.out.mono ?_;rintro e w' ⟨rfl,rfl⟩)
  |(go_at_call 270;((with_reducible refine HX.out.mono ?_);rintro e w' ⟨rfl,rfl⟩))
  |(go_at_call 271;((with_reducible refine HB.out.mono ?_);rintro e w' ⟨rfl,rfl⟩)))
 go_ret
 exact ⟨ret_int (by first|rfl|(unfold wrap64;omega)),rfl⟩
theorem sg_32 (a:Nat):sg 32 (a%2^32)=sgnN 32 a:=by
 unfold sg sgnN
 simp only[Nat.reduceSub,Nat.reducePow]
 split<;>split<;>omega
theorem wrap_64 (a:Nat) (h:a<18446744073709551616):IntKind.i64.wrap (a:Int)=sgnN 64 a:=by
 rw[IntKind.wrap_i64]
 unfold sgnN
 simp only[Nat.reduceSub,Nat.reducePow]
 split<;>omega
theorem RSigned_32 (a:Nat) (ha:a<18446744073709551616) (w:World):Calls QP 247 #[I J 32,I O (a:Nat)] w fun e w'=>e=Qr (I J (sgnN 32 a))∧w=w':=by
 have:=RSigned_ok 32 (by decide) a ha w
 rw[sg_32]at this
 exact this
end Go.Proofs.YtjgeedgphcjhoaaGreat
