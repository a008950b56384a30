/-
  WIns3, WIns4, WBlock: merged, what the law does not reach left out (each text says what it holds where it lies in wip). No condition.
-/
import Derived.Test.YtjgeedgphcjhoaaGreatS13
import Derived.Test.YtjgeedgphcjhoaaGreatS01
set_option linter.unusedSimpArgs false
set_option linter.unusedVariables false
set_option maxRecDepth 100000
set_option maxHeartbeats 64000000
namespace Go.Proofs.YtjgeedgphcjhoaaGreat
open Go.RowKit
open Value renaming int → I,slice → V,bool → G,pointer → Qp
open IntKind renaming i64 → J,u64 → O
open Ending renaming returned → Qr
open Obj renaming cells → Qc
open _root_.Go.Proofs.Tryz renaming prog → QP
open List renaming length_append → QA,length_cons → QC,length_nil → QN,length_map → QM,append_assoc → QS
theorem instr_14 (B g:Nat) (bs:List UInt8) (op a b:Int) (n h:Nat) (l:List Int) (pl pb pe:Option Addr) (nl cl nb cb ne ce:Nat) (ot:Bool) (w:World) (hw:WR B g bs w) (h0:0≤op) (h1:op<65024) (hnn:n<18446744073709551616) (hh:h<18446744073709551616)
  (hi:∀W,Calls QP 152 #[I J op] W fun e w'=>e=Qr (I J 14)∧Below W.heap.size W w') (hl:LT B g w (V pl nl cl) l) (hn:bs.length+300+20*l.length≤140737488355000) :
  Calls QP 230 #[Qp (some ⟨g,0,none⟩),.agg #[I J op,I J a,I J b,I O n,I O h,V pl nl cl,V pb nb cb,V pe ne ce,G ot]] w fun e w'=>e=Qr (.tuple #[])∧WR B g (bs++opL op++lowL 4 n) w'∧FR B g w w':=by
 have HI:=fun W=>hid (hi W)
 have HW:=hid hw
 have HLT:=hid hl
 have Hn:=hid hnn
 have Hh:=hid hh
 have HS32:=hid (sgnN_in 32 n (.inl rfl))
 have HS64:=hid (sgnN_in 64 n (.inr rfl))
 have H0:=hid h0
 have H1:=hid h1
 have q1:=opL_len op
 have q2:=uI_len a
 have q3:=uI_len b
 have q4:=usL_len l
 have q5:=uI_len l.length
 have q6:=lowL_len 0 8 n
 have HN:=hid (show bs.length+20≤140737488355000 by omega)
 have HN1:=hid (show (bs++opL op).length+120≤140737488355000 by simp only[QA,QM,QC,QN]at *;omega)
 have hxg:w.heap.size≠g:=by have:=hw.lt;omega
 have HXG:=hid hxg
 have hx0:=CA.new w #[I J op,I J a,I J b,I O n,I O h,V pl nl cl,V pb nb cb,V pe ne ce,G ot] 39
 have HX0:=hid hx0
 obtain ⟨y0,y1,y2,y3,y4,y5,y6,y7,y8⟩:=ca9 HX0.out
 clear hw hl hn hi q1 q2 q3 q4 q5 q6 hxg hx0 h0 h1 hnn hh
 go_enter Tryz.func230,Tryz.ntmps230
 go_wp2_with (first
  |(go_at_call 240;(with_reducible refine (op_says B g bs op H0.out H1.out _ (HW.out.alloc _) HN.out).mono ?_);rintro e w1 ⟨rfl,hw1,hf1⟩;have HW1:=hid hw1;have HF1:=hid (((FR.refl B g w).alloc _).trans hf1);have HX1:=hid (HX0.out.fr hf1 (by decide) HXG.out);obtain ⟨y0,y1,y2,y3,y4,y5,y6,y7,y8⟩:=ca9 HX1.out;clear hw1 hf1)
  |(go_at_call 152;(with_reducible refine (HI _).out.mono ?_);rintro e w2 ⟨rfl,hb⟩;have HWW1:=hid (HW1.out.call hb);have HFF1:=hid (HF1.out.trans (FR.of hb));have HXX1:=Qe HX1 hb;obtain ⟨y0,y1,y2,y3,y4,y5,y6,y7,y8⟩:=ca9 HXX1.out;clear hb)
  |(go_at_call 245;(with_reducible refine (little_4 B g _ n Hn.out _ HWW1.out HN1.out).mono ?_);rintro e w5 ⟨rfl,hw',hf⟩;have HV2:=hid hw';have HG2:=hid (HFF1.out.trans hf);have HY2:=hid (HXX1.out.fr hf (by decide) HXG.out);obtain ⟨y0,y1,y2,y3,y4,y5,y6,y7,y8⟩:=ca9 HY2.out;clear hw' hf))
 (first|go_end0|refine bodyPost_ret (results_none rfl _ _ _) rfl ?_)
 exact ⟨rfl,HV2.out,HG2.out⟩
theorem instr_15 (B g:Nat) (bs:List UInt8) (op a b:Int) (n h:Nat) (l:List Int) (pl pb pe:Option Addr) (nl cl nb cb ne ce:Nat) (ot:Bool) (w:World) (hw:WR B g bs w) (h0:0≤op) (h1:op<65024) (hnn:n<18446744073709551616) (hh:h<18446744073709551616)
  (hi:∀W,Calls QP 152 #[I J op] W fun e w'=>e=Qr (I J 15)∧Below W.heap.size W w') (hl:LT B g w (V pl nl cl) l) (hn:bs.length+300+20*l.length≤140737488355000) :
  Calls QP 230 #[Qp (some ⟨g,0,none⟩),.agg #[I J op,I J a,I J b,I O n,I O h,V pl nl cl,V pb nb cb,V pe ne ce,G ot]] w fun e w'=>e=Qr (.tuple #[])∧WR B g (bs++opL op++lowL 8 n) w'∧FR B g w w':=by
 have HI:=fun W=>hid (hi W)
 have HW:=hid hw
 have HLT:=hid hl
 have Hn:=hid hnn
 have Hh:=hid hh
 have HS32:=hid (sgnN_in 32 n (.inl rfl))
 have HS64:=hid (sgnN_in 64 n (.inr rfl))
 have H0:=hid h0
 have H1:=hid h1
 have q1:=opL_len op
 have q2:=uI_len a
 have q3:=uI_len b
 have q4:=usL_len l
 have q5:=uI_len l.length
 have q6:=lowL_len 0 8 n
 have HN:=hid (show bs.length+20≤140737488355000 by omega)
 have HN1:=hid (show (bs++opL op).length+120≤140737488355000 by simp only[QA,QM,QC,QN]at *;omega)
 have hxg:w.heap.size≠g:=by have:=hw.lt;omega
 have HXG:=hid hxg
 have hx0:=CA.new w #[I J op,I J a,I J b,I O n,I O h,V pl nl cl,V pb nb cb,V pe ne ce,G ot] 39
 have HX0:=hid hx0
 obtain ⟨y0,y1,y2,y3,y4,y5,y6,y7,y8⟩:=ca9 HX0.out
 clear hw hl hn hi q1 q2 q3 q4 q5 q6 hxg hx0 h0 h1 hnn hh
 go_enter Tryz.func230,Tryz.ntmps230
 go_wp2_with (first
  |(go_at_call 240;(with_reducible refine (op_says B g bs op H0.out H1.out _ (HW.out.alloc _) HN.out).mono ?_);rintro e w1 ⟨rfl,hw1,hf1⟩;have HW1:=hid hw1;have HF1:=hid (((FR.refl B g w).alloc _).trans hf1);have HX1:=hid (HX0.out.fr hf1 (by decide) HXG.out);obtain ⟨y0,y1,y2,y3,y4,y5,y6,y7,y8⟩:=ca9 HX1.out;clear hw1 hf1)
  |(go_at_call 152;(with_reducible refine (HI _).out.mono ?_);rintro e w2 ⟨rfl,hb⟩;have HWW1:=hid (HW1.out.call hb);have HFF1:=hid (HF1.out.trans (FR.of hb));have HXX1:=Qe HX1 hb;obtain ⟨y0,y1,y2,y3,y4,y5,y6,y7,y8⟩:=ca9 HXX1.out;clear hb)
  |(go_at_call 245;(with_reducible refine (little_8 B g _ n Hn.out _ HWW1.out HN1.out).mono ?_);rintro e w5 ⟨rfl,hw',hf⟩;have HV2:=hid hw';have HG2:=hid (HFF1.out.trans hf);have HY2:=hid (HXX1.out.fr hf (by decide) HXG.out);obtain ⟨y0,y1,y2,y3,y4,y5,y6,y7,y8⟩:=ca9 HY2.out;clear hw' hf))
 (first|go_end0|refine bodyPost_ret (results_none rfl _ _ _) rfl ?_)
 exact ⟨rfl,HV2.out,HG2.out⟩
theorem instr_16 (K:Int) (hK:K=16∨K=25) (B g:Nat) (bs:List UInt8) (op a b:Int) (n h:Nat) (l:List Int) (pl pb pe:Option Addr) (nl cl nb cb ne ce:Nat) (ot:Bool) (w:World) (hw:WR B g bs w) (h0:0≤op) (h1:op<65024) (hnn:n<18446744073709551616) (hh:h<18446744073709551616)
  (hi:∀W,Calls QP 152 #[I J op] W fun e w'=>e=Qr (I J K)∧Below W.heap.size W w') (hl:LT B g w (V pl nl cl) l) (hn:bs.length+300+20*l.length≤140737488355000) :
  Calls QP 230 #[Qp (some ⟨g,0,none⟩),.agg #[I J op,I J a,I J b,I O n,I O h,V pl nl cl,V pb nb cb,V pe ne ce,G ot]] w fun e w'=>e=Qr (.tuple #[])∧WR B g (bs++opL op++List.map byI [a]) w'∧FR B g w w':=by
 rcases hK with rfl|rfl
 all_goals
  have HI:=fun W=>hid (hi W)
  have HW:=hid hw
  have HLT:=hid hl
  have Hn:=hid hnn
  have Hh:=hid hh
  have HS32:=hid (sgnN_in 32 n (.inl rfl))
  have HS64:=hid (sgnN_in 64 n (.inr rfl))
  have H0:=hid h0
  have H1:=hid h1
  have q1:=opL_len op
  have q2:=uI_len a
  have q3:=uI_len b
  have q4:=usL_len l
  have q5:=uI_len l.length
  have q6:=lowL_len 0 8 n
  have HN:=hid (show bs.length+20≤140737488355000 by omega)
  have HN1:=hid (show (bs++opL op).length+([a]:List Int).length≤140737488355000 by simp only[QA,QM,QC,QN]at *;omega)
  have hxg:w.heap.size≠g:=by have:=hw.lt;omega
  have HXG:=hid hxg
  have hx0:=CA.new w #[I J op,I J a,I J b,I O n,I O h,V pl nl cl,V pb nb cb,V pe ne ce,G ot] 39
  have HX0:=hid hx0
  obtain ⟨y0,y1,y2,y3,y4,y5,y6,y7,y8⟩:=ca9 HX0.out
  clear hw hl hn hi q1 q2 q3 q4 q5 q6 hxg hx0 h0 h1 hnn hh
  go_enter Tryz.func230,Tryz.ntmps230
  go_wp2_with (first
   |(go_at_call 240;(with_reducible refine (op_says B g bs op H0.out H1.out _ (HW.out.alloc _) HN.out).mono ?_);rintro e w1 ⟨rfl,hw1,hf1⟩;have HW1:=hid hw1;have HF1:=hid (((FR.refl B g w).alloc _).trans hf1);have HX1:=hid (HX0.out.fr hf1 (by decide) HXG.out);obtain ⟨y0,y1,y2,y3,y4,y5,y6,y7,y8⟩:=ca9 HX1.out;clear hw1 hf1)
   |(go_at_call 152;(with_reducible refine (HI _).out.mono ?_);rintro e w2 ⟨rfl,hb⟩;have HWW1:=hid (HW1.out.call hb);have HFF1:=hid (HF1.out.trans (FR.of hb));have HXX1:=Qe HX1 hb;obtain ⟨y0,y1,y2,y3,y4,y5,y6,y7,y8⟩:=ca9 HXX1.out;clear hb)
   |(go_at_call 169;(with_reducible refine (bytes_says B g _ [a] _ _ (HWW1.out.alloc _) (LT.one a 1 HWW1.out.lt) HN1.out).mono ?_);rintro e w5 ⟨rfl,hw',hf⟩;have HV2:=hid hw';have HG2:=hid ((HFF1.out.alloc _).trans hf);have HY2:=hid ((HXX1.out.alloc _).fr hf (by decide) HXG.out);obtain ⟨y0,y1,y2,y3,y4,y5,y6,y7,y8⟩:=ca9 HY2.out;clear hw' hf))
  (first|go_end0|refine bodyPost_ret (results_none rfl _ _ _) rfl ?_)
  exact ⟨rfl,HV2.out,HG2.out⟩
theorem instr_17 (B g:Nat) (bs:List UInt8) (op a b:Int) (n h:Nat) (l:List Int) (pl pb pe:Option Addr) (nl cl nb cb ne ce:Nat) (ot:Bool) (w:World) (hw:WR B g bs w) (h0:0≤op) (h1:op<65024) (hnn:n<18446744073709551616) (hh:h<18446744073709551616)
  (hi:∀W,Calls QP 152 #[I J op] W fun e w'=>e=Qr (I J 17)∧Below W.heap.size W w') (hl:LT B g w (V pl nl cl) l) (hn:bs.length+300+20*l.length≤140737488355000) :
  Calls QP 230 #[Qp (some ⟨g,0,none⟩),.agg #[I J op,I J a,I J b,I O n,I O h,V pl nl cl,V pb nb cb,V pe ne ce,G ot]] w fun e w'=>e=Qr (.tuple #[])∧WR B g (bs++opL op++uI a++List.map byI [0]) w'∧FR B g w w':=by
 have HI:=fun W=>hid (hi W)
 have HW:=hid hw
 have HLT:=hid hl
 have Hn:=hid hnn
 have Hh:=hid hh
 have HS32:=hid (sgnN_in 32 n (.inl rfl))
 have HS64:=hid (sgnN_in 64 n (.inr rfl))
 have H0:=hid h0
 have H1:=hid h1
 have q1:=opL_len op
 have q2:=uI_len a
 have q3:=uI_len b
 have q4:=usL_len l
 have q5:=uI_len l.length
 have q6:=lowL_len 0 8 n
 have HN:=hid (show bs.length+20≤140737488355000 by omega)
 have HN1:=hid (show (bs++opL op).length+10≤140737488355000 by simp only[QA,QM,QC,QN]at *;omega)
 have HN2:=hid (show (bs++opL op++uI a).length+([0]:List Int).length≤140737488355000 by simp only[QA,QM,QC,QN]at *;omega)
 have hxg:w.heap.size≠g:=by have:=hw.lt;omega
 have HXG:=hid hxg
 have hx0:=CA.new w #[I J op,I J a,I J b,I O n,I O h,V pl nl cl,V pb nb cb,V pe ne ce,G ot] 39
 have HX0:=hid hx0
 obtain ⟨y0,y1,y2,y3,y4,y5,y6,y7,y8⟩:=ca9 HX0.out
 clear hw hl hn hi q1 q2 q3 q4 q5 q6 hxg hx0 h0 h1 hnn hh
 go_enter Tryz.func230,Tryz.ntmps230
 go_wp2_with (first
  |(go_at_call 240;(with_reducible refine (op_says B g bs op H0.out H1.out _ (HW.out.alloc _) HN.out).mono ?_);rintro e w1 ⟨rfl,hw1,hf1⟩;have HW1:=hid hw1;have HF1:=hid (((FR.refl B g w).alloc _).trans hf1);have HX1:=hid (HX0.out.fr hf1 (by decide) HXG.out);obtain ⟨y0,y1,y2,y3,y4,y5,y6,y7,y8⟩:=ca9 HX1.out;clear hw1 hf1)
  |(go_at_call 152;(with_reducible refine (HI _).out.mono ?_);rintro e w2 ⟨rfl,hb⟩;have HWW1:=hid (HW1.out.call hb);have HFF1:=hid (HF1.out.trans (FR.of hb));have HXX1:=Qe HX1 hb;obtain ⟨y0,y1,y2,y3,y4,y5,y6,y7,y8⟩:=ca9 HXX1.out;clear hb)
  |(go_at_call 105;(with_reducible refine (u_says B g _ a _ HWW1.out.base HWW1.out HN1.out).mono ?_);rintro e w5 ⟨rfl,hw',hf⟩;have HV2:=hid hw';have HG2:=hid (HFF1.out.trans hf);have HY2:=hid (HXX1.out.fr hf (by decide) HXG.out);obtain ⟨y0,y1,y2,y3,y4,y5,y6,y7,y8⟩:=ca9 HY2.out;clear hw' hf)
  |(go_at_call 169;(with_reducible refine (bytes_says B g _ [0] _ _ (HV2.out.alloc _) (LT.one 0 1 HV2.out.lt) HN2.out).mono ?_);rintro e w6 ⟨rfl,hw',hf⟩;have HV3:=hid hw';have HG3:=hid ((HG2.out.alloc _).trans hf);have HY3:=hid ((HY2.out.alloc _).fr hf (by decide) HXG.out);obtain ⟨y0,y1,y2,y3,y4,y5,y6,y7,y8⟩:=ca9 HY3.out;clear hw' hf))
 (first|go_end0|refine bodyPost_ret (results_none rfl _ _ _) rfl ?_)
 exact ⟨rfl,HV3.out,HG3.out⟩
theorem instr_19 (B g:Nat) (bs:List UInt8) (op a b:Int) (n h:Nat) (l:List Int) (pl pb pe:Option Addr) (nl cl nb cb ne ce:Nat) (ot:Bool) (w:World) (hw:WR B g bs w) (h0:0≤op) (h1:op<65024) (hnn:n<18446744073709551616) (hh:h<18446744073709551616)
  (hi:∀W,Calls QP 152 #[I J op] W fun e w'=>e=Qr (I J 19)∧Below W.heap.size W w') (hl:LT B g w (V pl nl cl) l) (hn:bs.length+300+20*l.length≤140737488355000) :
  Calls QP 230 #[Qp (some ⟨g,0,none⟩),.agg #[I J op,I J a,I J b,I O n,I O h,V pl nl cl,V pb nb cb,V pe ne ce,G ot]] w fun e w'=>e=Qr (.tuple #[])∧WR B g (bs++opL op++List.map byI [0,0]) w'∧FR B g w w':=by
 have HI:=fun W=>hid (hi W)
 have HW:=hid hw
 have HLT:=hid hl
 have Hn:=hid hnn
 have Hh:=hid hh
 have HS32:=hid (sgnN_in 32 n (.inl rfl))
 have HS64:=hid (sgnN_in 64 n (.inr rfl))
 have H0:=hid h0
 have H1:=hid h1
 have q1:=opL_len op
 have q2:=uI_len a
 have q3:=uI_len b
 have q4:=usL_len l
 have q5:=uI_len l.length
 have q6:=lowL_len 0 8 n
 have HN:=hid (show bs.length+20≤140737488355000 by omega)
 have HN1:=hid (show (bs++opL op).length+([0,0]:List Int).length≤140737488355000 by simp only[QA,QM,QC,QN]at *;omega)
 have hxg:w.heap.size≠g:=by have:=hw.lt;omega
 have HXG:=hid hxg
 have hx0:=CA.new w #[I J op,I J a,I J b,I O n,I O h,V pl nl cl,V pb nb cb,V pe ne ce,G ot] 39
 have HX0:=hid hx0
 obtain ⟨y0,y1,y2,y3,y4,y5,y6,y7,y8⟩:=ca9 HX0.out
 clear hw hl hn hi q1 q2 q3 q4 q5 q6 hxg hx0 h0 h1 hnn hh
 go_enter Tryz.func230,Tryz.ntmps230
 go_wp2_with (first
  |(go_at_call 240;(with_reducible refine (op_says B g bs op H0.out H1.out _ (HW.out.alloc _) HN.out).mono ?_);rintro e w1 ⟨rfl,hw1,hf1⟩;have HW1:=hid hw1;have HF1:=hid (((FR.refl B g w).alloc _).trans hf1);have HX1:=hid (HX0.out.fr hf1 (by decide) HXG.out);obtain ⟨y0,y1,y2,y3,y4,y5,y6,y7,y8⟩:=ca9 HX1.out;clear hw1 hf1)
  |(go_at_call 152;(with_reducible refine (HI _).out.mono ?_);rintro e w2 ⟨rfl,hb⟩;have HWW1:=hid (HW1.out.call hb);have HFF1:=hid (HF1.out.trans (FR.of hb));have HXX1:=Qe HX1 hb;obtain ⟨y0,y1,y2,y3,y4,y5,y6,y7,y8⟩:=ca9 HXX1.out;clear hb)
  |(go_at_call 169;(with_reducible refine (bytes_says B g _ [0,0] _ _ (HWW1.out.alloc _) (LT.two 0 0 2 HWW1.out.lt) HN1.out).mono ?_);rintro e w5 ⟨rfl,hw',hf⟩;have HV2:=hid hw';have HG2:=hid ((HFF1.out.alloc _).trans hf);have HY2:=hid ((HXX1.out.alloc _).fr hf (by decide) HXG.out);obtain ⟨y0,y1,y2,y3,y4,y5,y6,y7,y8⟩:=ca9 HY2.out;clear hw' hf))
 (first|go_end0|refine bodyPost_ret (results_none rfl _ _ _) rfl ?_)
 exact ⟨rfl,HV2.out,HG2.out⟩
theorem instr_23 (B g:Nat) (bs:List UInt8) (op a b:Int) (n h:Nat) (l:List Int) (pl pb pe:Option Addr) (nl cl nb cb ne ce:Nat) (ot:Bool) (w:World) (hw:WR B g bs w) (h0:0≤op) (h1:op<65024) (hnn:n<18446744073709551616) (hh:h<18446744073709551616)
  (hi:∀W,Calls QP 152 #[I J op] W fun e w'=>e=Qr (I J 23)∧Below W.heap.size W w') (hl:LT B g w (V pl nl cl) l) (hn:bs.length+300+20*l.length≤140737488355000) :
  Calls QP 230 #[Qp (some ⟨g,0,none⟩),.agg #[I J op,I J a,I J b,I O n,I O h,V pl nl cl,V pb nb cb,V pe ne ce,G ot]] w fun e w'=>e=Qr (.tuple #[])∧WR B g (bs++opL op++lowL 8 n++lowL 8 h) w'∧FR B g w w':=by
 have HI:=fun W=>hid (hi W)
 have HW:=hid hw
 have HLT:=hid hl
 have Hn:=hid hnn
 have Hh:=hid hh
 have HS32:=hid (sgnN_in 32 n (.inl rfl))
 have HS64:=hid (sgnN_in 64 n (.inr rfl))
 have H0:=hid h0
 have H1:=hid h1
 have q1:=opL_len op
 have q2:=uI_len a
 have q3:=uI_len b
 have q4:=usL_len l
 have q5:=uI_len l.length
 have q6:=lowL_len 0 8 n
 have HN:=hid (show bs.length+20≤140737488355000 by omega)
 have HN1:=hid (show (bs++opL op).length+120≤140737488355000 by simp only[QA,QM,QC,QN]at *;omega)
 have HN2:=hid (show (bs++opL op++lowL 8 n).length+120≤140737488355000 by simp only[QA,QM,QC,QN]at *;omega)
 have hxg:w.heap.size≠g:=by have:=hw.lt;omega
 have HXG:=hid hxg
 have hx0:=CA.new w #[I J op,I J a,I J b,I O n,I O h,V pl nl cl,V pb nb cb,V pe ne ce,G ot] 39
 have HX0:=hid hx0
 obtain ⟨y0,y1,y2,y3,y4,y5,y6,y7,y8⟩:=ca9 HX0.out
 clear hw hl hn hi q1 q2 q3 q4 q5 q6 hxg hx0 h0 h1 hnn hh
 go_enter Tryz.func230,Tryz.ntmps230
 go_wp2_with (first
  |(go_at_call 240;(with_reducible refine (op_says B g bs op H0.out H1.out _ (HW.out.alloc _) HN.out).mono ?_);rintro e w1 ⟨rfl,hw1,hf1⟩;have HW1:=hid hw1;have HF1:=hid (((FR.refl B g w).alloc _).trans hf1);have HX1:=hid (HX0.out.fr hf1 (by decide) HXG.out);obtain ⟨y0,y1,y2,y3,y4,y5,y6,y7,y8⟩:=ca9 HX1.out;clear hw1 hf1)
  |(go_at_call 152;(with_reducible refine (HI _).out.mono ?_);rintro e w2 ⟨rfl,hb⟩;have HWW1:=hid (HW1.out.call hb);have HFF1:=hid (HF1.out.trans (FR.of hb));have HXX1:=Qe HX1 hb;obtain ⟨y0,y1,y2,y3,y4,y5,y6,y7,y8⟩:=ca9 HXX1.out;clear hb)
  |(go_at_call 245;(with_reducible refine (little_8 B g _ n Hn.out _ HWW1.out HN1.out).mono ?_);rintro e w5 ⟨rfl,hw',hf⟩;have HV2:=hid hw';have HG2:=hid (HFF1.out.trans hf);have HY2:=hid (HXX1.out.fr hf (by decide) HXG.out);obtain ⟨y0,y1,y2,y3,y4,y5,y6,y7,y8⟩:=ca9 HY2.out;clear hw' hf)
  |(go_at_call 245;(with_reducible refine (little_8 B g _ h Hh.out _ HV2.out HN2.out).mono ?_);rintro e w6 ⟨rfl,hw',hf⟩;have HV3:=hid hw';have HG3:=hid (HG2.out.trans hf);have HY3:=hid (HY2.out.fr hf (by decide) HXG.out);obtain ⟨y0,y1,y2,y3,y4,y5,y6,y7,y8⟩:=ca9 HY3.out;clear hw' hf))
 (first|go_end0|refine bodyPost_ret (results_none rfl _ _ _) rfl ?_)
 exact ⟨rfl,HV3.out,HG3.out⟩
theorem instr_24 (B g:Nat) (bs:List UInt8) (op a b:Int) (n h:Nat) (l:List Int) (pl pb pe:Option Addr) (nl cl nb cb ne ce:Nat) (ot:Bool) (w:World) (hw:WR B g bs w) (h0:0≤op) (h1:op<65024) (hnn:n<18446744073709551616) (hh:h<18446744073709551616)
  (hi:∀W,Calls QP 152 #[I J op] W fun e w'=>e=Qr (I J 24)∧Below W.heap.size W w') (hl:LT B g w (V pl nl cl) l) (hn:bs.length+300+20*l.length≤140737488355000) :
  Calls QP 230 #[Qp (some ⟨g,0,none⟩),.agg #[I J op,I J a,I J b,I O n,I O h,V pl nl cl,V pb nb cb,V pe ne ce,G ot]] w fun e w'=>e=Qr (.tuple #[])∧WR B g (bs++opL op++List.map byI l) w'∧FR B g w w':=by
 have HI:=fun W=>hid (hi W)
 have HW:=hid hw
 have HLT:=hid hl
 have Hn:=hid hnn
 have Hh:=hid hh
 have HS32:=hid (sgnN_in 32 n (.inl rfl))
 have HS64:=hid (sgnN_in 64 n (.inr rfl))
 have H0:=hid h0
 have H1:=hid h1
 have q1:=opL_len op
 have q2:=uI_len a
 have q3:=uI_len b
 have q4:=usL_len l
 have q5:=uI_len l.length
 have q6:=lowL_len 0 8 n
 have HN:=hid (show bs.length+20≤140737488355000 by omega)
 have HN1:=hid (show (bs++opL op).length+l.length≤140737488355000 by simp only[QA,QM,QC,QN]at *;omega)
 have hxg:w.heap.size≠g:=by have:=hw.lt;omega
 have HXG:=hid hxg
 have hx0:=CA.new w #[I J op,I J a,I J b,I O n,I O h,V pl nl cl,V pb nb cb,V pe ne ce,G ot] 39
 have HX0:=hid hx0
 obtain ⟨y0,y1,y2,y3,y4,y5,y6,y7,y8⟩:=ca9 HX0.out
 clear hw hl hn hi q1 q2 q3 q4 q5 q6 hxg hx0 h0 h1 hnn hh
 go_enter Tryz.func230,Tryz.ntmps230
 go_wp2_with (first
  |(go_at_call 240;(with_reducible refine (op_says B g bs op H0.out H1.out _ (HW.out.alloc _) HN.out).mono ?_);rintro e w1 ⟨rfl,hw1,hf1⟩;have HW1:=hid hw1;have HF1:=hid (((FR.refl B g w).alloc _).trans hf1);have HX1:=hid (HX0.out.fr hf1 (by decide) HXG.out);obtain ⟨y0,y1,y2,y3,y4,y5,y6,y7,y8⟩:=ca9 HX1.out;clear hw1 hf1)
  |(go_at_call 152;(with_reducible refine (HI _).out.mono ?_);rintro e w2 ⟨rfl,hb⟩;have HWW1:=hid (HW1.out.call hb);have HFF1:=hid (HF1.out.trans (FR.of hb));have HXX1:=Qe HX1 hb;obtain ⟨y0,y1,y2,y3,y4,y5,y6,y7,y8⟩:=ca9 HXX1.out;clear hb)
  |(go_at_call 169;(with_reducible refine (bytes_says B g _ l _ _ HWW1.out (HLT.out.fr HFF1.out) HN1.out).mono ?_);rintro e w5 ⟨rfl,hw',hf⟩;have HV2:=hid hw';have HG2:=hid (HFF1.out.trans hf);have HY2:=hid (HXX1.out.fr hf (by decide) HXG.out);obtain ⟨y0,y1,y2,y3,y4,y5,y6,y7,y8⟩:=ca9 HY2.out;clear hw' hf))
 (first|go_end0|refine bodyPost_ret (results_none rfl _ _ _) rfl ?_)
 exact ⟨rfl,HV2.out,HG2.out⟩
theorem instr_26 (B g:Nat) (bs:List UInt8) (op a b:Int) (n h:Nat) (l:List Int) (pl pb pe:Option Addr) (nl cl nb cb ne ce:Nat) (ot:Bool) (w:World) (hw:WR B g bs w) (h0:0≤op) (h1:op<65024) (hnn:n<18446744073709551616) (hh:h<18446744073709551616)
  (hi:∀W,Calls QP 152 #[I J op] W fun e w'=>e=Qr (I J 26)∧Below W.heap.size W w') (hl:LT B g w (V pl nl cl) l) (hn:bs.length+300+20*l.length≤140737488355000) :
  Calls QP 230 #[Qp (some ⟨g,0,none⟩),.agg #[I J op,I J a,I J b,I O n,I O h,V pl nl cl,V pb nb cb,V pe ne ce,G ot]] w fun e w'=>e=Qr (.tuple #[])∧WR B g (bs++opL op++uI a++uI b++List.map byI l) w'∧FR B g w w':=by
 have HI:=fun W=>hid (hi W)
 have HW:=hid hw
 have HLT:=hid hl
 have Hn:=hid hnn
 have Hh:=hid hh
 have HS32:=hid (sgnN_in 32 n (.inl rfl))
 have HS64:=hid (sgnN_in 64 n (.inr rfl))
 have H0:=hid h0
 have H1:=hid h1
 have q1:=opL_len op
 have q2:=uI_len a
 have q3:=uI_len b
 have q4:=usL_len l
 have q5:=uI_len l.length
 have q6:=lowL_len 0 8 n
 have HN:=hid (show bs.length+20≤140737488355000 by omega)
 have HN1:=hid (show (bs++opL op).length+10≤140737488355000 by simp only[QA,QM,QC,QN]at *;omega)
 have HN2:=hid (show (bs++opL op++uI a).length+10≤140737488355000 by simp only[QA,QM,QC,QN]at *;omega)
 have HN3:=hid (show (bs++opL op++uI a++uI b).length+l.length≤140737488355000 by simp only[QA,QM,QC,QN]at *;omega)
 have hxg:w.heap.size≠g:=by have:=hw.lt;omega
 have HXG:=hid hxg
 have hx0:=CA.new w #[I J op,I J a,I J b,I O n,I O h,V pl nl cl,V pb nb cb,V pe ne ce,G ot] 39
 have HX0:=hid hx0
 obtain ⟨y0,y1,y2,y3,y4,y5,y6,y7,y8⟩:=ca9 HX0.out
 clear hw hl hn hi q1 q2 q3 q4 q5 q6 hxg hx0 h0 h1 hnn hh
 go_enter Tryz.func230,Tryz.ntmps230
 go_wp2_with (first
  |(go_at_call 240;(with_reducible refine (op_says B g bs op H0.out H1.out _ (HW.out.alloc _) HN.out).mono ?_);rintro e w1 ⟨rfl,hw1,hf1⟩;have HW1:=hid hw1;have HF1:=hid (((FR.refl B g w).alloc _).trans hf1);have HX1:=hid (HX0.out.fr hf1 (by decide) HXG.out);obtain ⟨y0,y1,y2,y3,y4,y5,y6,y7,y8⟩:=ca9 HX1.out;clear hw1 hf1)
  |(go_at_call 152;(with_reducible refine (HI _).out.mono ?_);rintro e w2 ⟨rfl,hb⟩;have HWW1:=hid (HW1.out.call hb);have HFF1:=hid (HF1.out.trans (FR.of hb));have HXX1:=Qe HX1 hb;obtain ⟨y0,y1,y2,y3,y4,y5,y6,y7,y8⟩:=ca9 HXX1.out;clear hb)
  |(go_at_call 105;(with_reducible refine (u_says B g _ a _ HWW1.out.base HWW1.out HN1.out).mono ?_);rintro e w5 ⟨rfl,hw',hf⟩;have HV2:=hid hw';have HG2:=hid (HFF1.out.trans hf);have HY2:=hid (HXX1.out.fr hf (by decide) HXG.out);obtain ⟨y0,y1,y2,y3,y4,y5,y6,y7,y8⟩:=ca9 HY2.out;clear hw' hf)
  |(go_at_call 105;(with_reducible refine (u_says B g _ b _ HV2.out.base HV2.out HN2.out).mono ?_);rintro e w6 ⟨rfl,hw',hf⟩;have HV3:=hid hw';have HG3:=hid (HG2.out.trans hf);have HY3:=hid (HY2.out.fr hf (by decide) HXG.out);obtain ⟨y0,y1,y2,y3,y4,y5,y6,y7,y8⟩:=ca9 HY3.out;clear hw' hf)
  |(go_at_call 169;(with_reducible refine (bytes_says B g _ l _ _ HV3.out (HLT.out.fr HG3.out) HN3.out).mono ?_);rintro e w7 ⟨rfl,hw',hf⟩;have HV4:=hid hw';have HG4:=hid (HG3.out.trans hf);have HY4:=hid (HY3.out.fr hf (by decide) HXG.out);obtain ⟨y0,y1,y2,y3,y4,y5,y6,y7,y8⟩:=ca9 HY4.out;clear hw' hf))
 (first|go_end0|refine bodyPost_ret (results_none rfl _ _ _) rfl ?_)
 exact ⟨rfl,HV4.out,HG4.out⟩
def Wrote (B g:Nat) (w:World) (v:Value) (E:List UInt8) (sz:Nat):Prop :=
 ∀bs W,Below (lo B g) w W→WR B g bs W→bs.length+sz≤140737488355000→Calls QP 208 #[Qp (some ⟨g,0,none⟩),v] W fun e w'=>e=Qr (.tuple #[])∧WR B g (bs++E) w'∧FR B g W w'
theorem block_0f (B g:Nat) (bs:List UInt8) (op b:Int) (n h:Nat) (pl pb pe:Option Addr) (nl cl nb cb ne ce:Nat) (w:World) (hw:WR B g bs w) (hb:i64C b) (eb ee:List UInt8) (sb se:Nat)
  (h1:Wrote B g w (V pb nb cb) eb sb) (h2:Wrote B g w (V pe ne ce) ee se) (hn:bs.length+100+sb+se≤140737488355000) (he1:eb.length≤sb) (he2:ee.length≤se) :
  Calls QP 241 #[Qp (some ⟨g,0,none⟩),.agg #[I J op,I J 0,I J b,I O n,I O h,V pl nl cl,V pb nb cb,V pe ne ce,G false]] w fun e w'=>e=Qr (.tuple #[])∧WR B g (bs++List.map byI [64]++eb++List.map byI [11]) w'∧FR B g w w':=by
 have HB:=fun bs W a b c=>hid (h1 bs W a b c)
 have HE:=fun bs W a b c=>hid (h2 bs W a b c)
 have HW:=hid hw
 have HBG:=hid hw.1
 have HBW:=hid (WR.base hw)
 have HR:=hid hb
 have HS:=hid (show -9223372036854775808≤b∧b≤9223372036854775807 from ⟨hb.1,by have:=hb.2;omega⟩)
 have q1:=slist_len b HS.out
 have HN0:=hid (show (bs).length+([64]:List Int).length≤140737488355000 by (try simp only[QA,QM,QC,QN]at *);omega)
 have HN1:=hid (show (bs++List.map byI [64]).length+sb≤140737488355000 by (try simp only[QA,QM,QC,QN]at *);omega)
 have HN2:=hid (show (bs++List.map byI [64]++eb).length+([11]:List Int).length≤140737488355000 by (try simp only[QA,QM,QC,QN]at *);omega)
 have hxg:w.heap.size≠g:=by have:=hw.lt;omega
 have HXG:=hid hxg
 have hx0:=CA.new w #[I J op,I J 0,I J b,I O n,I O h,V pl nl cl,V pb nb cb,V pe ne ce,G false] 39
 have HX0:=hid hx0
 have HW0:=hid (hw.alloc (Qc #[I J op,I J 0,I J b,I O n,I O h,V pl nl cl,V pb nb cb,V pe ne ce,G false] 39))
 have HF0:=hid ((FR.refl B g w).alloc (Qc #[I J op,I J 0,I J b,I O n,I O h,V pl nl cl,V pb nb cb,V pe ne ce,G false] 39))
 have HL0:Hid (LT B g ((w.alloc (Qc #[I J op,I J 0,I J b,I O n,I O h,V pl nl cl,V pb nb cb,V pe ne ce,G false] 39)).alloc (Qc #[I J 64] 3)) (V (some ⟨w.heap.size+1,0,none⟩) 1 1) [64]):=by
  have:=LT.one (B:=B) (w:=w.alloc (Qc #[I J op,I J 0,I J b,I O n,I O h,V pl nl cl,V pb nb cb,V pe ne ce,G false] 39)) 64 1 HW0.out.lt
  rw[size_al]at this
  exact this
 obtain ⟨y0,y1,y2,y3,y4,y5,y6,y7,y8⟩:=ca9 HX0.out
 clear hw hn h1 h2 hb q1 hxg hx0 he1 he2
 go_enter Tryz.func241,Tryz.ntmps241
 go_wp2_with (first
  |(go_at_call 169;(with_reducible refine (bytes_says B g _ [64] _ _ (HW0.out.alloc _) HL0.out HN0.out).mono ?_);rintro e w1 ⟨rfl,hw',hf⟩;have HV0:=hid hw';have HG0:=hid ((HF0.out.alloc _).trans hf);have HY0:=hid ((HX0.out.alloc _).fr hf (by decide) HXG.out);obtain ⟨y0,y1,y2,y3,y4,y5,y6,y7,y8⟩:=ca9 HY0.out;clear hw' hf)
  |(go_at_call 208;(with_reducible refine ((HB _ _ (HG0.out.belowL HBW.out) HV0.out HN1.out).out).mono ?_);rintro e w2 ⟨rfl,hw',hf⟩;have HV1:=hid hw';have HG1:=hid (HG0.out.trans hf);have HY1:=hid (HY0.out.fr hf (by decide) HXG.out);obtain ⟨y0,y1,y2,y3,y4,y5,y6,y7,y8⟩:=ca9 HY1.out;clear hw' hf)
  |(go_at_call 169;(with_reducible refine (bytes_says B g _ [11] _ _ (HV1.out.alloc _) (LT.one 11 1 HV1.out.lt) HN2.out).mono ?_);rintro e w3 ⟨rfl,hw',hf⟩;have HV2:=hid hw';have HG2:=hid ((HG1.out.alloc _).trans hf);have HY2:=hid ((HY1.out.alloc _).fr hf (by decide) HXG.out);obtain ⟨y0,y1,y2,y3,y4,y5,y6,y7,y8⟩:=ca9 HY2.out;clear hw' hf))
 (first|go_end0|refine bodyPost_ret (results_none rfl _ _ _) rfl ?_)
 exact ⟨rfl,HV2.out,HG2.out⟩
theorem block_0t (B g:Nat) (bs:List UInt8) (op b:Int) (n h:Nat) (pl pb pe:Option Addr) (nl cl nb cb ne ce:Nat) (w:World) (hw:WR B g bs w) (hb:i64C b) (eb ee:List UInt8) (sb se:Nat)
  (h1:Wrote B g w (V pb nb cb) eb sb) (h2:Wrote B g w (V pe ne ce) ee se) (hn:bs.length+100+sb+se≤140737488355000) (he1:eb.length≤sb) (he2:ee.length≤se) :
  Calls QP 241 #[Qp (some ⟨g,0,none⟩),.agg #[I J op,I J 0,I J b,I O n,I O h,V pl nl cl,V pb nb cb,V pe ne ce,G true]] w fun e w'=>e=Qr (.tuple #[])∧WR B g (bs++List.map byI [64]++eb++List.map byI [5]++ee++List.map byI [11]) w'∧FR B g w w':=by
 have HB:=fun bs W a b c=>hid (h1 bs W a b c)
 have HE:=fun bs W a b c=>hid (h2 bs W a b c)
 have HW:=hid hw
 have HBG:=hid hw.1
 have HBW:=hid (WR.base hw)
 have HR:=hid hb
 have HS:=hid (show -9223372036854775808≤b∧b≤9223372036854775807 from ⟨hb.1,by have:=hb.2;omega⟩)
 have q1:=slist_len b HS.out
 have HN0:=hid (show (bs).length+([64]:List Int).length≤140737488355000 by (try simp only[QA,QM,QC,QN]at *);omega)
 have HN1:=hid (show (bs++List.map byI [64]).length+sb≤140737488355000 by (try simp only[QA,QM,QC,QN]at *);omega)
 have HN2:=hid (show (bs++List.map byI [64]++eb).length+([5]:List Int).length≤140737488355000 by (try simp only[QA,QM,QC,QN]at *);omega)
 have HN3:=hid (show (bs++List.map byI [64]++eb++List.map byI [5]).length+se≤140737488355000 by (try simp only[QA,QM,QC,QN]at *);omega)
 have HN4:=hid (show (bs++List.map byI [64]++eb++List.map byI [5]++ee).length+([11]:List Int).length≤140737488355000 by (try simp only[QA,QM,QC,QN]at *);omega)
 have hxg:w.heap.size≠g:=by have:=hw.lt;omega
 have HXG:=hid hxg
 have hx0:=CA.new w #[I J op,I J 0,I J b,I O n,I O h,V pl nl cl,V pb nb cb,V pe ne ce,G true] 39
 have HX0:=hid hx0
 have HW0:=hid (hw.alloc (Qc #[I J op,I J 0,I J b,I O n,I O h,V pl nl cl,V pb nb cb,V pe ne ce,G true] 39))
 have HF0:=hid ((FR.refl B g w).alloc (Qc #[I J op,I J 0,I J b,I O n,I O h,V pl nl cl,V pb nb cb,V pe ne ce,G true] 39))
 have HL0:Hid (LT B g ((w.alloc (Qc #[I J op,I J 0,I J b,I O n,I O h,V pl nl cl,V pb nb cb,V pe ne ce,G true] 39)).alloc (Qc #[I J 64] 3)) (V (some ⟨w.heap.size+1,0,none⟩) 1 1) [64]):=by
  have:=LT.one (B:=B) (w:=w.alloc (Qc #[I J op,I J 0,I J b,I O n,I O h,V pl nl cl,V pb nb cb,V pe ne ce,G true] 39)) 64 1 HW0.out.lt
  rw[size_al]at this
  exact this
 obtain ⟨y0,y1,y2,y3,y4,y5,y6,y7,y8⟩:=ca9 HX0.out
 clear hw hn h1 h2 hb q1 hxg hx0 he1 he2
 go_enter Tryz.func241,Tryz.ntmps241
 go_wp2_with (first
  |(go_at_call 169;(with_reducible refine (bytes_says B g _ [64] _ _ (HW0.out.alloc _) HL0.out HN0.out).mono ?_);rintro e w1 ⟨rfl,hw',hf⟩;have HV0:=hid hw';have HG0:=hid ((HF0.out.alloc _).trans hf);have HY0:=hid ((HX0.out.alloc _).fr hf (by decide) HXG.out);obtain ⟨y0,y1,y2,y3,y4,y5,y6,y7,y8⟩:=ca9 HY0.out;clear hw' hf)
  |(go_at_call 208;(with_reducible refine ((HB _ _ (HG0.out.belowL HBW.out) HV0.out HN1.out).out).mono ?_);rintro e w2 ⟨rfl,hw',hf⟩;have HV1:=hid hw';have HG1:=hid (HG0.out.trans hf);have HY1:=hid (HY0.out.fr hf (by decide) HXG.out);obtain ⟨y0,y1,y2,y3,y4,y5,y6,y7,y8⟩:=ca9 HY1.out;clear hw' hf)
  |(go_at_call 169;(with_reducible refine (bytes_says B g _ [5] _ _ (HV1.out.alloc _) (LT.one 5 1 HV1.out.lt) HN2.out).mono ?_);rintro e w3 ⟨rfl,hw',hf⟩;have HV2:=hid hw';have HG2:=hid ((HG1.out.alloc _).trans hf);have HY2:=hid ((HY1.out.alloc _).fr hf (by decide) HXG.out);obtain ⟨y0,y1,y2,y3,y4,y5,y6,y7,y8⟩:=ca9 HY2.out;clear hw' hf)
  |(go_at_call 208;(with_reducible refine ((HE _ _ (HG2.out.belowL HBW.out) HV2.out HN3.out).out).mono ?_);rintro e w4 ⟨rfl,hw',hf⟩;have HV3:=hid hw';have HG3:=hid (HG2.out.trans hf);have HY3:=hid (HY2.out.fr hf (by decide) HXG.out);obtain ⟨y0,y1,y2,y3,y4,y5,y6,y7,y8⟩:=ca9 HY3.out;clear hw' hf)
  |(go_at_call 169;(with_reducible refine (bytes_says B g _ [11] _ _ (HV3.out.alloc _) (LT.one 11 1 HV3.out.lt) HN4.out).mono ?_);rintro e w5 ⟨rfl,hw',hf⟩;have HV4:=hid hw';have HG4:=hid ((HG3.out.alloc _).trans hf);have HY4:=hid ((HY3.out.alloc _).fr hf (by decide) HXG.out);obtain ⟨y0,y1,y2,y3,y4,y5,y6,y7,y8⟩:=ca9 HY4.out;clear hw' hf))
 (first|go_end0|refine bodyPost_ret (results_none rfl _ _ _) rfl ?_)
 exact ⟨rfl,HV4.out,HG4.out⟩
theorem block_1f (B g:Nat) (bs:List UInt8) (op b:Int) (n h:Nat) (pl pb pe:Option Addr) (nl cl nb cb ne ce:Nat) (w:World) (hw:WR B g bs w) (hb:i64C b) (eb ee:List UInt8) (sb se:Nat)
  (h1:Wrote B g w (V pb nb cb) eb sb) (h2:Wrote B g w (V pe ne ce) ee se) (hn:bs.length+100+sb+se≤140737488355000) (he1:eb.length≤sb) (he2:ee.length≤se) :
  Calls QP 241 #[Qp (some ⟨g,0,none⟩),.agg #[I J op,I J 1,I J b,I O n,I O h,V pl nl cl,V pb nb cb,V pe ne ce,G false]] w fun e w'=>e=Qr (.tuple #[])∧WR B g (bs++List.map byI [b]++eb++List.map byI [11]) w'∧FR B g w w':=by
 have HB:=fun bs W a b c=>hid (h1 bs W a b c)
 have HE:=fun bs W a b c=>hid (h2 bs W a b c)
 have HW:=hid hw
 have HBG:=hid hw.1
 have HBW:=hid (WR.base hw)
 have HR:=hid hb
 have HS:=hid (show -9223372036854775808≤b∧b≤9223372036854775807 from ⟨hb.1,by have:=hb.2;omega⟩)
 have q1:=slist_len b HS.out
 have HN0:=hid (show (bs).length+([b]:List Int).length≤140737488355000 by (try simp only[QA,QM,QC,QN]at *);omega)
 have HN1:=hid (show (bs++List.map byI [b]).length+sb≤140737488355000 by (try simp only[QA,QM,QC,QN]at *);omega)
 have HN2:=hid (show (bs++List.map byI [b]++eb).length+([11]:List Int).length≤140737488355000 by (try simp only[QA,QM,QC,QN]at *);omega)
 have hxg:w.heap.size≠g:=by have:=hw.lt;omega
 have HXG:=hid hxg
 have hx0:=CA.new w #[I J op,I J 1,I J b,I O n,I O h,V pl nl cl,V pb nb cb,V pe ne ce,G false] 39
 have HX0:=hid hx0
 have HW0:=hid (hw.alloc (Qc #[I J op,I J 1,I J b,I O n,I O h,V pl nl cl,V pb nb cb,V pe ne ce,G false] 39))
 have HF0:=hid ((FR.refl B g w).alloc (Qc #[I J op,I J 1,I J b,I O n,I O h,V pl nl cl,V pb nb cb,V pe ne ce,G false] 39))
 have HL0:Hid (LT B g ((w.alloc (Qc #[I J op,I J 1,I J b,I O n,I O h,V pl nl cl,V pb nb cb,V pe ne ce,G false] 39)).alloc (Qc #[I J b] 3)) (V (some ⟨w.heap.size+1,0,none⟩) 1 1) [b]):=by
  have:=LT.one (B:=B) (w:=w.alloc (Qc #[I J op,I J 1,I J b,I O n,I O h,V pl nl cl,V pb nb cb,V pe ne ce,G false] 39)) b 1 HW0.out.lt
  rw[size_al]at this
  exact this
 obtain ⟨y0,y1,y2,y3,y4,y5,y6,y7,y8⟩:=ca9 HX0.out
 clear hw hn h1 h2 hb q1 hxg hx0 he1 he2
 go_enter Tryz.func241,Tryz.ntmps241
 go_wp2_with (first
  |(go_at_call 169;(with_reducible refine (bytes_says B g _ [b] _ _ (HW0.out.alloc _) HL0.out HN0.out).mono ?_);rintro e w1 ⟨rfl,hw',hf⟩;have HV0:=hid hw';have HG0:=hid ((HF0.out.alloc _).trans hf);have HY0:=hid ((HX0.out.alloc _).fr hf (by decide) HXG.out);obtain ⟨y0,y1,y2,y3,y4,y5,y6,y7,y8⟩:=ca9 HY0.out;clear hw' hf)
  |(go_at_call 208;(with_reducible refine ((HB _ _ (HG0.out.belowL HBW.out) HV0.out HN1.out).out).mono ?_);rintro e w2 ⟨rfl,hw',hf⟩;have HV1:=hid hw';have HG1:=hid (HG0.out.trans hf);have HY1:=hid (HY0.out.fr hf (by decide) HXG.out);obtain ⟨y0,y1,y2,y3,y4,y5,y6,y7,y8⟩:=ca9 HY1.out;clear hw' hf)
  |(go_at_call 169;(with_reducible refine (bytes_says B g _ [11] _ _ (HV1.out.alloc _) (LT.one 11 1 HV1.out.lt) HN2.out).mono ?_);rintro e w3 ⟨rfl,hw',hf⟩;have HV2:=hid hw';have HG2:=hid ((HG1.out.alloc _).trans hf);have HY2:=hid ((HY1.out.alloc _).fr hf (by decide) HXG.out);obtain ⟨y0,y1,y2,y3,y4,y5,y6,y7,y8⟩:=ca9 HY2.out;clear hw' hf))
 (first|go_end0|refine bodyPost_ret (results_none rfl _ _ _) rfl ?_)
 exact ⟨rfl,HV2.out,HG2.out⟩
theorem block_1t (B g:Nat) (bs:List UInt8) (op b:Int) (n h:Nat) (pl pb pe:Option Addr) (nl cl nb cb ne ce:Nat) (w:World) (hw:WR B g bs w) (hb:i64C b) (eb ee:List UInt8) (sb se:Nat)
  (h1:Wrote B g w (V pb nb cb) eb sb) (h2:Wrote B g w (V pe ne ce) ee se) (hn:bs.length+100+sb+se≤140737488355000) (he1:eb.length≤sb) (he2:ee.length≤se) :
  Calls QP 241 #[Qp (some ⟨g,0,none⟩),.agg #[I J op,I J 1,I J b,I O n,I O h,V pl nl cl,V pb nb cb,V pe ne ce,G true]] w fun e w'=>e=Qr (.tuple #[])∧WR B g (bs++List.map byI [b]++eb++List.map byI [5]++ee++List.map byI [11]) w'∧FR B g w w':=by
 have HB:=fun bs W a b c=>hid (h1 bs W a b c)
 have HE:=fun bs W a b c=>hid (h2 bs W a b c)
 have HW:=hid hw
 have HBG:=hid hw.1
 have HBW:=hid (WR.base hw)
 have HR:=hid hb
 have HS:=hid (show -9223372036854775808≤b∧b≤9223372036854775807 from ⟨hb.1,by have:=hb.2;omega⟩)
 have q1:=slist_len b HS.out
 have HN0:=hid (show (bs).length+([b]:List Int).length≤140737488355000 by (try simp only[QA,QM,QC,QN]at *);omega)
 have HN1:=hid (show (bs++List.map byI [b]).length+sb≤140737488355000 by (try simp only[QA,QM,QC,QN]at *);omega)
 have HN2:=hid (show (bs++List.map byI [b]++eb).length+([5]:List Int).length≤140737488355000 by (try simp only[QA,QM,QC,QN]at *);omega)
 have HN3:=hid (show (bs++List.map byI [b]++eb++List.map byI [5]).length+se≤140737488355000 by (try simp only[QA,QM,QC,QN]at *);omega)
 have HN4:=hid (show (bs++List.map byI [b]++eb++List.map byI [5]++ee).length+([11]:List Int).length≤140737488355000 by (try simp only[QA,QM,QC,QN]at *);omega)
 have hxg:w.heap.size≠g:=by have:=hw.lt;omega
 have HXG:=hid hxg
 have hx0:=CA.new w #[I J op,I J 1,I J b,I O n,I O h,V pl nl cl,V pb nb cb,V pe ne ce,G true] 39
 have HX0:=hid hx0
 have HW0:=hid (hw.alloc (Qc #[I J op,I J 1,I J b,I O n,I O h,V pl nl cl,V pb nb cb,V pe ne ce,G true] 39))
 have HF0:=hid ((FR.refl B g w).alloc (Qc #[I J op,I J 1,I J b,I O n,I O h,V pl nl cl,V pb nb cb,V pe ne ce,G true] 39))
 have HL0:Hid (LT B g ((w.alloc (Qc #[I J op,I J 1,I J b,I O n,I O h,V pl nl cl,V pb nb cb,V pe ne ce,G true] 39)).alloc (Qc #[I J b] 3)) (V (some ⟨w.heap.size+1,0,none⟩) 1 1) [b]):=by
  have:=LT.one (B:=B) (w:=w.alloc (Qc #[I J op,I J 1,I J b,I O n,I O h,V pl nl cl,V pb nb cb,V pe ne ce,G true] 39)) b 1 HW0.out.lt
  rw[size_al]at this
  exact this
 obtain ⟨y0,y1,y2,y3,y4,y5,y6,y7,y8⟩:=ca9 HX0.out
 clear hw hn h1 h2 hb q1 hxg hx0 he1 he2
 go_enter Tryz.func241,Tryz.ntmps241
 go_wp2_with (first
  |(go_at_call 169;(with_reducible refine (bytes_says B g _ [b] _ _ (HW0.out.alloc _) HL0.out HN0.out).mono ?_);rintro e w1 ⟨rfl,hw',hf⟩;have HV0:=hid hw';have HG0:=hid ((HF0.out.alloc _).trans hf);have HY0:=hid ((HX0.out.alloc _).fr hf (by decide) HXG.out);obtain ⟨y0,y1,y2,y3,y4,y5,y6,y7,y8⟩:=ca9 HY0.out;clear hw' hf)
  |(go_at_call 208;(with_reducible refine ((HB _ _ (HG0.out.belowL HBW.out) HV0.out HN1.out).out).mono ?_);rintro e w2 ⟨rfl,hw',hf⟩;have HV1:=hid hw';have HG1:=hid (HG0.out.trans hf);have HY1:=hid (HY0.out.fr hf (by decide) HXG.out);obtain ⟨y0,y1,y2,y3,y4,y5,y6,y7,y8⟩:=ca9 HY1.out;clear hw' hf)
  |(go_at_call 169;(with_reducible refine (bytes_says B g _ [5] _ _ (HV1.out.alloc _) (LT.one 5 1 HV1.out.lt) HN2.out).mono ?_);rintro e w3 ⟨rfl,hw',hf⟩;have HV2:=hid hw';have HG2:=hid ((HG1.out.alloc _).trans hf);have HY2:=hid ((HY1.out.alloc _).fr hf (by decide) HXG.out);obtain ⟨y0,y1,y2,y3,y4,y5,y6,y7,y8⟩:=ca9 HY2.out;clear hw' hf)
  |(go_at_call 208;(with_reducible refine ((HE _ _ (HG2.out.belowL HBW.out) HV2.out HN3.out).out).mono ?_);rintro e w4 ⟨rfl,hw',hf⟩;have HV3:=hid hw';have HG3:=hid (HG2.out.trans hf);have HY3:=hid (HY2.out.fr hf (by decide) HXG.out);obtain ⟨y0,y1,y2,y3,y4,y5,y6,y7,y8⟩:=ca9 HY3.out;clear hw' hf)
  |(go_at_call 169;(with_reducible refine (bytes_says B g _ [11] _ _ (HV3.out.alloc _) (LT.one 11 1 HV3.out.lt) HN4.out).mono ?_);rintro e w5 ⟨rfl,hw',hf⟩;have HV4:=hid hw';have HG4:=hid ((HG3.out.alloc _).trans hf);have HY4:=hid ((HY3.out.alloc _).fr hf (by decide) HXG.out);obtain ⟨y0,y1,y2,y3,y4,y5,y6,y7,y8⟩:=ca9 HY4.out;clear hw' hf))
 (first|go_end0|refine bodyPost_ret (results_none rfl _ _ _) rfl ?_)
 exact ⟨rfl,HV4.out,HG4.out⟩
theorem block_2f (B g:Nat) (bs:List UInt8) (op b:Int) (n h:Nat) (pl pb pe:Option Addr) (nl cl nb cb ne ce:Nat) (w:World) (hw:WR B g bs w) (hb:i64C b) (eb ee:List UInt8) (sb se:Nat)
  (h1:Wrote B g w (V pb nb cb) eb sb) (h2:Wrote B g w (V pe ne ce) ee se) (hn:bs.length+100+sb+se≤140737488355000) (he1:eb.length≤sb) (he2:ee.length≤se) :
  Calls QP 241 #[Qp (some ⟨g,0,none⟩),.agg #[I J op,I J 2,I J b,I O n,I O h,V pl nl cl,V pb nb cb,V pe ne ce,G false]] w fun e w'=>e=Qr (.tuple #[])∧WR B g (bs++slist b++eb++List.map byI [11]) w'∧FR B g w w':=by
 have HB:=fun bs W a b c=>hid (h1 bs W a b c)
 have HE:=fun bs W a b c=>hid (h2 bs W a b c)
 have HW:=hid hw
 have HBG:=hid hw.1
 have HBW:=hid (WR.base hw)
 have HR:=hid hb
 have HS:=hid (show -9223372036854775808≤b∧b≤9223372036854775807 from ⟨hb.1,by have:=hb.2;omega⟩)
 have q1:=slist_len b HS.out
 have HN0:=hid (show (bs).length+10≤140737488355000 by (try simp only[QA,QM,QC,QN]at *);omega)
 have HN1:=hid (show (bs++slist b).length+sb≤140737488355000 by (try simp only[QA,QM,QC,QN]at *);omega)
 have HN2:=hid (show (bs++slist b++eb).length+([11]:List Int).length≤140737488355000 by (try simp only[QA,QM,QC,QN]at *);omega)
 have hxg:w.heap.size≠g:=by have:=hw.lt;omega
 have HXG:=hid hxg
 have hx0:=CA.new w #[I J op,I J 2,I J b,I O n,I O h,V pl nl cl,V pb nb cb,V pe ne ce,G false] 39
 have HX0:=hid hx0
 have HW0:=hid (hw.alloc (Qc #[I J op,I J 2,I J b,I O n,I O h,V pl nl cl,V pb nb cb,V pe ne ce,G false] 39))
 have HF0:=hid ((FR.refl B g w).alloc (Qc #[I J op,I J 2,I J b,I O n,I O h,V pl nl cl,V pb nb cb,V pe ne ce,G false] 39))
 have HL0:Hid (LT B g ((w.alloc (Qc #[I J op,I J 2,I J b,I O n,I O h,V pl nl cl,V pb nb cb,V pe ne ce,G false] 39)).alloc (Qc #[I J b] 3)) (V (some ⟨w.heap.size+1,0,none⟩) 1 1) [b]):=by
  have:=LT.one (B:=B) (w:=w.alloc (Qc #[I J op,I J 2,I J b,I O n,I O h,V pl nl cl,V pb nb cb,V pe ne ce,G false] 39)) b 1 HW0.out.lt
  rw[size_al]at this
  exact this
 obtain ⟨y0,y1,y2,y3,y4,y5,y6,y7,y8⟩:=ca9 HX0.out
 clear hw hn h1 h2 hb q1 hxg hx0 he1 he2
 go_enter Tryz.func241,Tryz.ntmps241
 go_wp2_with (first
  |(go_at_call 243;(with_reducible refine (s_says B g _ b HS.out.1 HS.out.2 _ HW0.out.base HW0.out HN0.out).mono ?_);rintro e w1 ⟨rfl,hw',hf⟩;have HV0:=hid hw';have HG0:=hid (HF0.out.trans hf);have HY0:=hid (HX0.out.fr hf (by decide) HXG.out);obtain ⟨y0,y1,y2,y3,y4,y5,y6,y7,y8⟩:=ca9 HY0.out;clear hw' hf)
  |(go_at_call 208;(with_reducible refine ((HB _ _ (HG0.out.belowL HBW.out) HV0.out HN1.out).out).mono ?_);rintro e w2 ⟨rfl,hw',hf⟩;have HV1:=hid hw';have HG1:=hid (HG0.out.trans hf);have HY1:=hid (HY0.out.fr hf (by decide) HXG.out);obtain ⟨y0,y1,y2,y3,y4,y5,y6,y7,y8⟩:=ca9 HY1.out;clear hw' hf)
  |(go_at_call 169;(with_reducible refine (bytes_says B g _ [11] _ _ (HV1.out.alloc _) (LT.one 11 1 HV1.out.lt) HN2.out).mono ?_);rintro e w3 ⟨rfl,hw',hf⟩;have HV2:=hid hw';have HG2:=hid ((HG1.out.alloc _).trans hf);have HY2:=hid ((HY1.out.alloc _).fr hf (by decide) HXG.out);obtain ⟨y0,y1,y2,y3,y4,y5,y6,y7,y8⟩:=ca9 HY2.out;clear hw' hf))
 (first|go_end0|refine bodyPost_ret (results_none rfl _ _ _) rfl ?_)
 exact ⟨rfl,HV2.out,HG2.out⟩
theorem block_2t (B g:Nat) (bs:List UInt8) (op b:Int) (n h:Nat) (pl pb pe:Option Addr) (nl cl nb cb ne ce:Nat) (w:World) (hw:WR B g bs w) (hb:i64C b) (eb ee:List UInt8) (sb se:Nat)
  (h1:Wrote B g w (V pb nb cb) eb sb) (h2:Wrote B g w (V pe ne ce) ee se) (hn:bs.length+100+sb+se≤140737488355000) (he1:eb.length≤sb) (he2:ee.length≤se) :
  Calls QP 241 #[Qp (some ⟨g,0,none⟩),.agg #[I J op,I J 2,I J b,I O n,I O h,V pl nl cl,V pb nb cb,V pe ne ce,G true]] w fun e w'=>e=Qr (.tuple #[])∧WR B g (bs++slist b++eb++List.map byI [5]++ee++List.map byI [11]) w'∧FR B g w w':=by
 have HB:=fun bs W a b c=>hid (h1 bs W a b c)
 have HE:=fun bs W a b c=>hid (h2 bs W a b c)
 have HW:=hid hw
 have HBG:=hid hw.1
 have HBW:=hid (WR.base hw)
 have HR:=hid hb
 have HS:=hid (show -9223372036854775808≤b∧b≤9223372036854775807 from ⟨hb.1,by have:=hb.2;omega⟩)
 have q1:=slist_len b HS.out
 have HN0:=hid (show (bs).length+10≤140737488355000 by (try simp only[QA,QM,QC,QN]at *);omega)
 have HN1:=hid (show (bs++slist b).length+sb≤140737488355000 by (try simp only[QA,QM,QC,QN]at *);omega)
 have HN2:=hid (show (bs++slist b++eb).length+([5]:List Int).length≤140737488355000 by (try simp only[QA,QM,QC,QN]at *);omega)
 have HN3:=hid (show (bs++slist b++eb++List.map byI [5]).length+se≤140737488355000 by (try simp only[QA,QM,QC,QN]at *);omega)
 have HN4:=hid (show (bs++slist b++eb++List.map byI [5]++ee).length+([11]:List Int).length≤140737488355000 by (try simp only[QA,QM,QC,QN]at *);omega)
 have hxg:w.heap.size≠g:=by have:=hw.lt;omega
 have HXG:=hid hxg
 have hx0:=CA.new w #[I J op,I J 2,I J b,I O n,I O h,V pl nl cl,V pb nb cb,V pe ne ce,G true] 39
 have HX0:=hid hx0
 have HW0:=hid (hw.alloc (Qc #[I J op,I J 2,I J b,I O n,I O h,V pl nl cl,V pb nb cb,V pe ne ce,G true] 39))
 have HF0:=hid ((FR.refl B g w).alloc (Qc #[I J op,I J 2,I J b,I O n,I O h,V pl nl cl,V pb nb cb,V pe ne ce,G true] 39))
 have HL0:Hid (LT B g ((w.alloc (Qc #[I J op,I J 2,I J b,I O n,I O h,V pl nl cl,V pb nb cb,V pe ne ce,G true] 39)).alloc (Qc #[I J b] 3)) (V (some ⟨w.heap.size+1,0,none⟩) 1 1) [b]):=by
  have:=LT.one (B:=B) (w:=w.alloc (Qc #[I J op,I J 2,I J b,I O n,I O h,V pl nl cl,V pb nb cb,V pe ne ce,G true] 39)) b 1 HW0.out.lt
  rw[size_al]at this
  exact this
 obtain ⟨y0,y1,y2,y3,y4,y5,y6,y7,y8⟩:=ca9 HX0.out
 clear hw hn h1 h2 hb q1 hxg hx0 he1 he2
 go_enter Tryz.func241,Tryz.ntmps241
 go_wp2_with (first
  |(go_at_call 243;(with_reducible refine (s_says B g _ b HS.out.1 HS.out.2 _ HW0.out.base HW0.out HN0.out).mono ?_);rintro e w1 ⟨rfl,hw',hf⟩;have HV0:=hid hw';have HG0:=hid (HF0.out.trans hf);have HY0:=hid (HX0.out.fr hf (by decide) HXG.out);obtain ⟨y0,y1,y2,y3,y4,y5,y6,y7,y8⟩:=ca9 HY0.out;clear hw' hf)
  |(go_at_call 208;(with_reducible refine ((HB _ _ (HG0.out.belowL HBW.out) HV0.out HN1.out).out).mono ?_);rintro e w2 ⟨rfl,hw',hf⟩;have HV1:=hid hw';have HG1:=hid (HG0.out.trans hf);have HY1:=hid (HY0.out.fr hf (by decide) HXG.out);obtain ⟨y0,y1,y2,y3,y4,y5,y6,y7,y8⟩:=ca9 HY1.out;clear hw' hf)
  |(go_at_call 169;(with_reducible refine (bytes_says B g _ [5] _ _ (HV1.out.alloc _) (LT.one 5 1 HV1.out.lt) HN2.out).mono ?_);rintro e w3 ⟨rfl,hw',hf⟩;have HV2:=hid hw';have HG2:=hid ((HG1.out.alloc _).trans hf);have HY2:=hid ((HY1.out.alloc _).fr hf (by decide) HXG.out);obtain ⟨y0,y1,y2,y3,y4,y5,y6,y7,y8⟩:=ca9 HY2.out;clear hw' hf)
  |(go_at_call 208;(with_reducible refine ((HE _ _ (HG2.out.belowL HBW.out) HV2.out HN3.out).out).mono ?_);rintro e w4 ⟨rfl,hw',hf⟩;have HV3:=hid hw';have HG3:=hid (HG2.out.trans hf);have HY3:=hid (HY2.out.fr hf (by decide) HXG.out);obtain ⟨y0,y1,y2,y3,y4,y5,y6,y7,y8⟩:=ca9 HY3.out;clear hw' hf)
  |(go_at_call 169;(with_reducible refine (bytes_says B g _ [11] _ _ (HV3.out.alloc _) (LT.one 11 1 HV3.out.lt) HN4.out).mono ?_);rintro e w5 ⟨rfl,hw',hf⟩;have HV4:=hid hw';have HG4:=hid ((HG3.out.alloc _).trans hf);have HY4:=hid ((HY3.out.alloc _).fr hf (by decide) HXG.out);obtain ⟨y0,y1,y2,y3,y4,y5,y6,y7,y8⟩:=ca9 HY4.out;clear hw' hf))
 (first|go_end0|refine bodyPost_ret (results_none rfl _ _ _) rfl ?_)
 exact ⟨rfl,HV4.out,HG4.out⟩
theorem block_says (B g:Nat) (bs:List UInt8) (op a b:Int) (n h:Nat) (pl pb pe:Option Addr) (nl cl nb cb ne ce:Nat) (ot:Bool) (w:World) (hw:WR B g bs w) (ha:a=0∨a=1∨a=2) (hb:i64C b) (eb ee:List UInt8) (sb se:Nat)
  (h1:Wrote B g w (V pb nb cb) eb sb) (h2:Wrote B g w (V pe ne ce) ee se) (hn:bs.length+100+sb+se≤140737488355000) (he1:eb.length≤sb) (he2:ee.length≤se) :
  Calls QP 241 #[Qp (some ⟨g,0,none⟩),.agg #[I J op,I J a,I J b,I O n,I O h,V pl nl cl,V pb nb cb,V pe ne ce,G ot]] w fun e w'=>e=Qr (.tuple #[])∧WR B g (bs++(blL a b++eb++(if ot=true then 5::ee else [])++[11])) w'∧FR B g w w':=by
 have e0:blL 0 b=[64]:=rfl
 have e1:blL 1 b=[byI b]:=rfl
 have e2:blL 2 b=slist b:=rfl
 have m64:List.map byI [64]=[64]:=rfl
 have m5:List.map byI [5]=[5]:=rfl
 have m11:List.map byI [11]=[11]:=rfl
 have mb:List.map byI [b]=[byI b]:=rfl
 rcases ha with rfl|rfl|rfl
 all_goals cases ot
 ·have:=block_0f B g bs op b n h pl pb pe nl cl nb cb ne ce w hw hb eb ee sb se h1 h2 hn he1 he2
  simpa[e0,m64,m11,QS]using this
 ·have:=block_0t B g bs op b n h pl pb pe nl cl nb cb ne ce w hw hb eb ee sb se h1 h2 hn he1 he2
  simpa[e0,m64,m5,m11,QS]using this
 ·have:=block_1f B g bs op b n h pl pb pe nl cl nb cb ne ce w hw hb eb ee sb se h1 h2 hn he1 he2
  simpa[e1,mb,m11,QS]using this
 ·have:=block_1t B g bs op b n h pl pb pe nl cl nb cb ne ce w hw hb eb ee sb se h1 h2 hn he1 he2
  simpa[e1,mb,m5,m11,QS]using this
 ·have:=block_2f B g bs op b n h pl pb pe nl cl nb cb ne ce w hw hb eb ee sb se h1 h2 hn he1 he2
  simpa[e2,m11,QS]using this
 have:=block_2t B g bs op b n h pl pb pe nl cl nb cb ne ce w hw hb eb ee sb se h1 h2 hn he1 he2
 simpa[e2,m5,m11,QS]using this
theorem Wrote.mono {B g:Nat} {w W:World} {v:Value} {E:List UInt8} {sz:Nat} (h:Wrote B g w v E sz) (hb:Below (lo B g) w W):Wrote B g W v E sz:=fun bs W' h1 h2 h3=>h bs W' (hb.trans h1) h2 h3
theorem instr_1 (B g:Nat) (bs:List UInt8) (op a b:Int) (n h:Nat) (pl pb pe:Option Addr) (nl cl nb cb ne ce:Nat) (ot:Bool) (w:World) (hw:WR B g bs w) (h0:0≤op) (h1:op<65024) (ha:a=0∨a=1∨a=2) (hb:i64C b) (eb ee:List UInt8) (sb se:Nat)
  (hi:∀W,Calls QP 152 #[I J op] W fun e w'=>e=Qr (I J 1)∧Below W.heap.size W w')
  (hr1:Wrote B g w (V pb nb cb) eb sb) (hr2:Wrote B g w (V pe ne ce) ee se) (hn:bs.length+200+sb+se≤140737488355000) (he1:eb.length≤sb) (he2:ee.length≤se) :
  Calls QP 230 #[Qp (some ⟨g,0,none⟩),.agg #[I J op,I J a,I J b,I O n,I O h,V pl nl cl,V pb nb cb,V pe ne ce,G ot]] w fun e w'=>e=Qr (.tuple #[])∧WR B g (bs++opL op++(blL a b++eb++(if ot=true then 5::ee else [])++[11])) w'∧FR B g w w':=by
 have HI:=fun W=>hid (hi W)
 have HW:=hid hw
 have HBG:=hid hw.1
 have HBW:=hid (WR.base hw)
 have H0:=hid h0
 have H1:=hid h1
 have HA:=hid ha
 have HB:=hid hb
 have HR1:=hid hr1
 have HR2:=hid hr2
 have q1:=opL_len op
 have HN:=hid (show bs.length+20≤140737488355000 by omega)
 have HN1:=hid (show (bs++opL op).length+100+sb+se≤140737488355000 by simp only[QA];omega)
 have hxg:w.heap.size≠g:=by have:=hw.lt;omega
 have HXG:=hid hxg
 have hx0:=CA.new w #[I J op,I J a,I J b,I O n,I O h,V pl nl cl,V pb nb cb,V pe ne ce,G ot] 39
 have HX0:=hid hx0
 obtain ⟨y0,y1,y2,y3,y4,y5,y6,y7,y8⟩:=ca9 HX0.out
 have HBK:=fun bs W q1 q2 q3 q4 q5 q6=>hid (block_says B g bs op a b n h pl pb pe nl cl nb cb ne ce ot W q1 q2 q3 eb ee sb se q4 q5 q6 he1 he2)
 obtain ⟨E,hE⟩:∃E,E=blL a b++eb++(if ot=true then 5::ee else [])++[11]:=⟨_,rfl⟩
 rw[←hE]at HBK ⊢
 clear hw hn hi q1 hxg hx0 h0 h1 ha hb hr1 hr2 hE he1 he2
 go_enter Tryz.func230,Tryz.ntmps230
 go_wp2_with (first
  |(go_at_call 240;(with_reducible refine (op_says B g bs op H0.out H1.out _ (HW.out.alloc _) HN.out).mono ?_);rintro e w1 ⟨rfl,hw1,hf1⟩;have HW1:=hid hw1;have HF1:=hid (((FR.refl B g w).alloc _).trans hf1);have HX1:=hid (HX0.out.fr hf1 (by decide) HXG.out);obtain ⟨y0,y1,y2,y3,y4,y5,y6,y7,y8⟩:=ca9 HX1.out;clear hw1 hf1)
  |(go_at_call 152;(with_reducible refine (HI _).out.mono ?_);rintro e w2 ⟨rfl,hb⟩;have HWW1:=hid (HW1.out.call hb);have HFF1:=hid (HF1.out.trans (FR.of hb));have HXX1:=Qe HX1 hb;obtain ⟨y0,y1,y2,y3,y4,y5,y6,y7,y8⟩:=ca9 HXX1.out;clear hb)
  |(go_at_call 241;(with_reducible refine (HBK _ _ HWW1.out HA.out HB.out (HR1.out.mono (HFF1.out.belowL HBW.out)) (HR2.out.mono (HFF1.out.belowL HBW.out)) HN1.out).out.mono ?_);rintro e w3 ⟨rfl,hw',hf⟩;have HV:=hid hw';have HG:=hid (HFF1.out.trans hf);clear hw' hf))
 (first|go_end0|refine bodyPost_ret (results_none rfl _ _ _) rfl ?_)
 exact ⟨rfl,HV.out,HG.out⟩
end Go.Proofs.YtjgeedgphcjhoaaGreat
