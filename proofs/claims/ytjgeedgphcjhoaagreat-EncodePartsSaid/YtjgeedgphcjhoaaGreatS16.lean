/-
  WMeth2, WRuns, WList3, WFun: merged, what the law does not reach left out (each text says what it holds where it lies in wip). No condition.
-/
import Derived.Test.YtjgeedgphcjhoaaGreatS15
import Derived.Laws.OwnMore
import Derived.Deep.RegionHeld3
import Derived.Test.YtjgeedgphcjhoaaGreatS01
set_option linter.unusedSimpArgs false
set_option linter.unusedVariables false
set_option maxRecDepth 100000
set_option maxHeartbeats 64000000
namespace Go.Proofs.YtjgeedgphcjhoaaGreat
open Go.RowKit
open Value renaming int → I,slice → V,bool → G,string → Qs,pointer → Qp
open IntKind renaming i64 → J
open Ending renaming returned → Qr
open Obj renaming cells → Qc
open _root_.Go.Proofs.Tryz renaming prog → QP
open Nat renaming le_refl → Ql,le_of_lt → Qo,le_trans → Qk,zero_le → Qz
open List renaming length_append → QA,length_cons → QC,length_nil → QN,length_map → QM,append_assoc → QS
open Below renaming refl → QB
open World renaming cell?_of_block → QW
open Act renaming put → Qu
theorem import_0 (B g:Nat) (bs:List UInt8) (s0 s1:ByteArray) (ty tr tmn tmx:Int) (th:Bool) (mmn mmx:Int) (mh:Bool) (gt:Int) (gm:Bool) (w:World) (hs0:s0.size≤1000) (hs1:s1.size≤1000) (hw:WR B g bs w) (hn:bs.length≤3000000000000) :
  Calls QP 102 #[Qp (some ⟨g,0,none⟩),.agg #[Qs s0,Qs s1,I J 0,I J ty,I J tr,I J tmn,I J tmx,G th,I J mmn,I J mmx,G mh,I J gt,G gm]] w fun e w'=>e=Qr (.tuple #[])∧WR B g (bs++(miL ⟨s0,s1,0,ty,tr,tmn,tmx,th,mmn,mmx,mh,gt,gm⟩)) w'∧FR B g w w':=by
 have HS0:=hid hs0
 have HS1:=hid hs1
 have HW0:=hid (hw.alloc (Qc #[Qs s0,Qs s1,I J 0,I J ty,I J tr,I J tmn,I J tmx,G th,I J mmn,I J mmx,G mh,I J gt,G gm] 74))
 have HF0:=hid ((FR.refl B g w).alloc (Qc #[Qs s0,Qs s1,I J 0,I J ty,I J tr,I J tmn,I J tmx,G th,I J mmn,I J mmx,G mh,I J gt,G gm] 74))
 have HX0:=hid (CA.new w #[Qs s0,Qs s1,I J 0,I J ty,I J tr,I J tmn,I J tmx,G th,I J mmn,I J mmx,G mh,I J gt,G gm] 74)
 have HNE:=hid (show w.heap.size≠g by have:=hw.lt;omega)
 obtain ⟨y0,y1,y2,y3,y4,y5,y6,y7,y8,y9,y10,y11,y12⟩:=ca13 HX0.out
 have HN0:=hid (show (bs).length≤130737488355000 by
  have h1:=strL_len s0
  have h2:=strL_len s1
  have h3:=HS0.out
  have h4:=HS1.out
  (try simp only[QA,QC,QN,QM])
  omega)
 have HN1:=hid (show (bs++strL s0).length≤130737488355000 by
  have h1:=strL_len s0
  have h2:=strL_len s1
  have h3:=HS0.out
  have h4:=HS1.out
  (try simp only[QA,QC,QN,QM])
  omega)
 have HN2:=hid (show (bs++strL s0++strL s1).length+([0]:List Int).length≤140737488355000 by
  have h1:=strL_len s0
  have h2:=strL_len s1
  have h3:=HS0.out
  have h4:=HS1.out
  (try simp only[QA,QC,QN,QM])
  omega)
 have HN3:=hid (show (bs++strL s0++strL s1++List.map byI [0]).length+10≤140737488355000 by
  have h1:=strL_len s0
  have h2:=strL_len s1
  have h3:=HS0.out
  have h4:=HS1.out
  (try simp only[QA,QC,QN,QM])
  omega)
 clear hw hn
 go_enter Tryz.func102,Tryz.ntmps102
 go_upto_region 1 with fail
 generalize w.alloc (Qc #[Qs s0,Qs s1,I J 0,I J ty,I J tr,I J tmn,I J tmx,G th,I J mmn,I J mmx,G mh,I J gt,G gm] 74)=w0 at *
 generalize w.heap.size=gx at *
 go_wp2_with (first
  |(go_at_call 173;(with_reducible refine (name_says B g _ s0 _ HS0.out HW0.out HN0.out).mono ?_);rintro e w1 ⟨rfl,hw',hf⟩;have HW1:=hid hw';have HF1:=hid ((HF0.out).trans hf);have HX1:=hid ((HX0.out).fr hf (by decide) HNE.out);clear y0 y1 y2 y3 y4 y5 y6 y7 y8 y9 y10 y11 y12;obtain ⟨y0,y1,y2,y3,y4,y5,y6,y7,y8,y9,y10,y11,y12⟩:=ca13 HX1.out;clear hw' hf)
  |(go_at_call 173;(with_reducible refine (name_says B g _ s1 _ HS1.out HW1.out HN1.out).mono ?_);rintro e w2 ⟨rfl,hw',hf⟩;have HW2:=hid hw';have HF2:=hid ((HF1.out).trans hf);have HX2:=hid ((HX1.out).fr hf (by decide) HNE.out);clear y0 y1 y2 y3 y4 y5 y6 y7 y8 y9 y10 y11 y12;obtain ⟨y0,y1,y2,y3,y4,y5,y6,y7,y8,y9,y10,y11,y12⟩:=ca13 HX2.out;clear hw' hf)
  |(go_at_call 169;(with_reducible refine (bytes_says B g _ [0] _ _ (HW2.out.alloc _) (LT.one (0) 1 HW2.out.lt) HN2.out).mono ?_);rintro e w3 ⟨rfl,hw',hf⟩;have HW3:=hid hw';have HF3:=hid ((HF2.out.alloc _).trans hf);have HX3:=hid ((HX2.out.alloc _).fr hf (by decide) HNE.out);clear y0 y1 y2 y3 y4 y5 y6 y7 y8 y9 y10 y11 y12;obtain ⟨y0,y1,y2,y3,y4,y5,y6,y7,y8,y9,y10,y11,y12⟩:=ca13 HX3.out;clear hw' hf)
  |(go_at_call 105;(with_reducible refine (u_says B g _ (ty) _ HW3.out.base HW3.out HN3.out).mono ?_);rintro e w4 ⟨rfl,hw',hf⟩;have HW4:=hid hw';have HF4:=hid ((HF3.out).trans hf);have HX4:=hid ((HX3.out).fr hf (by decide) HNE.out);clear y0 y1 y2 y3 y4 y5 y6 y7 y8 y9 y10 y11 y12;obtain ⟨y0,y1,y2,y3,y4,y5,y6,y7,y8,y9,y10,y11,y12⟩:=ca13 HX4.out;clear hw' hf))
 (first|go_end0|refine bodyPost_ret (results_none rfl _ _ _) rfl ?_)
 refine ⟨rfl,?_,HF4.out⟩
 have:=HW4.out
 simpa[miL]using this
theorem import_1 (B g:Nat) (bs:List UInt8) (s0 s1:ByteArray) (ty tr tmn tmx:Int) (th:Bool) (mmn mmx:Int) (mh:Bool) (gt:Int) (gm:Bool) (w:World) (hs0:s0.size≤1000) (hs1:s1.size≤1000) (hw:WR B g bs w) (hn:bs.length≤3000000000000) :
  Calls QP 102 #[Qp (some ⟨g,0,none⟩),.agg #[Qs s0,Qs s1,I J 1,I J ty,I J tr,I J tmn,I J tmx,G th,I J mmn,I J mmx,G mh,I J gt,G gm]] w fun e w'=>e=Qr (.tuple #[])∧WR B g (bs++(miL ⟨s0,s1,1,ty,tr,tmn,tmx,th,mmn,mmx,mh,gt,gm⟩)) w'∧FR B g w w':=by
 have HS0:=hid hs0
 have HS1:=hid hs1
 have HW0:=hid (hw.alloc (Qc #[Qs s0,Qs s1,I J 1,I J ty,I J tr,I J tmn,I J tmx,G th,I J mmn,I J mmx,G mh,I J gt,G gm] 74))
 have HF0:=hid ((FR.refl B g w).alloc (Qc #[Qs s0,Qs s1,I J 1,I J ty,I J tr,I J tmn,I J tmx,G th,I J mmn,I J mmx,G mh,I J gt,G gm] 74))
 have HX0:=hid (CA.new w #[Qs s0,Qs s1,I J 1,I J ty,I J tr,I J tmn,I J tmx,G th,I J mmn,I J mmx,G mh,I J gt,G gm] 74)
 have HNE:=hid (show w.heap.size≠g by have:=hw.lt;omega)
 obtain ⟨y0,y1,y2,y3,y4,y5,y6,y7,y8,y9,y10,y11,y12⟩:=ca13 HX0.out
 have HN0:=hid (show (bs).length≤130737488355000 by
  have h1:=strL_len s0
  have h2:=strL_len s1
  have h3:=HS0.out
  have h4:=HS1.out
  (try simp only[QA,QC,QN,QM])
  omega)
 have HN1:=hid (show (bs++strL s0).length≤130737488355000 by
  have h1:=strL_len s0
  have h2:=strL_len s1
  have h3:=HS0.out
  have h4:=HS1.out
  (try simp only[QA,QC,QN,QM])
  omega)
 have HN2:=hid (show (bs++strL s0++strL s1).length+([1]:List Int).length≤140737488355000 by
  have h1:=strL_len s0
  have h2:=strL_len s1
  have h3:=HS0.out
  have h4:=HS1.out
  (try simp only[QA,QC,QN,QM])
  omega)
 have HN3:=hid (show (bs++strL s0++strL s1++List.map byI [1]).length≤50000000000000 by
  have h1:=strL_len s0
  have h2:=strL_len s1
  have h3:=HS0.out
  have h4:=HS1.out
  (try simp only[QA,QC,QN,QM])
  omega)
 clear hw hn
 go_enter Tryz.func102,Tryz.ntmps102
 go_upto_region 1 with fail
 generalize w.alloc (Qc #[Qs s0,Qs s1,I J 1,I J ty,I J tr,I J tmn,I J tmx,G th,I J mmn,I J mmx,G mh,I J gt,G gm] 74)=w0 at *
 generalize w.heap.size=gx at *
 go_wp2_with (first
  |(go_at_call 173;(with_reducible refine (name_says B g _ s0 _ HS0.out HW0.out HN0.out).mono ?_);rintro e w1 ⟨rfl,hw',hf⟩;have HW1:=hid hw';have HF1:=hid ((HF0.out).trans hf);have HX1:=hid ((HX0.out).fr hf (by decide) HNE.out);clear y0 y1 y2 y3 y4 y5 y6 y7 y8 y9 y10 y11 y12;obtain ⟨y0,y1,y2,y3,y4,y5,y6,y7,y8,y9,y10,y11,y12⟩:=ca13 HX1.out;clear hw' hf)
  |(go_at_call 173;(with_reducible refine (name_says B g _ s1 _ HS1.out HW1.out HN1.out).mono ?_);rintro e w2 ⟨rfl,hw',hf⟩;have HW2:=hid hw';have HF2:=hid ((HF1.out).trans hf);have HX2:=hid ((HX1.out).fr hf (by decide) HNE.out);clear y0 y1 y2 y3 y4 y5 y6 y7 y8 y9 y10 y11 y12;obtain ⟨y0,y1,y2,y3,y4,y5,y6,y7,y8,y9,y10,y11,y12⟩:=ca13 HX2.out;clear hw' hf)
  |(go_at_call 169;(with_reducible refine (bytes_says B g _ [1] _ _ (HW2.out.alloc _) (LT.one (1) 1 HW2.out.lt) HN2.out).mono ?_);rintro e w3 ⟨rfl,hw',hf⟩;have HW3:=hid hw';have HF3:=hid ((HF2.out.alloc _).trans hf);have HX3:=hid ((HX2.out.alloc _).fr hf (by decide) HNE.out);clear y0 y1 y2 y3 y4 y5 y6 y7 y8 y9 y10 y11 y12;obtain ⟨y0,y1,y2,y3,y4,y5,y6,y7,y8,y9,y10,y11,y12⟩:=ca13 HX3.out;clear hw' hf)
  |(go_at_call 108;(with_reducible refine (ttype_says B g _ tr tmn tmx th _ HW3.out HN3.out).mono ?_);rintro e w4 ⟨rfl,hw',hf⟩;have HW4:=hid hw';have HF4:=hid ((HF3.out).trans hf);have HX4:=hid ((HX3.out).fr hf (by decide) HNE.out);clear y0 y1 y2 y3 y4 y5 y6 y7 y8 y9 y10 y11 y12;obtain ⟨y0,y1,y2,y3,y4,y5,y6,y7,y8,y9,y10,y11,y12⟩:=ca13 HX4.out;clear hw' hf))
 (first|go_end0|refine bodyPost_ret (results_none rfl _ _ _) rfl ?_)
 refine ⟨rfl,?_,HF4.out⟩
 have:=HW4.out
 simpa[miL]using this
theorem import_2 (B g:Nat) (bs:List UInt8) (s0 s1:ByteArray) (ty tr tmn tmx:Int) (th:Bool) (mmn mmx:Int) (mh:Bool) (gt:Int) (gm:Bool) (w:World) (hs0:s0.size≤1000) (hs1:s1.size≤1000) (hw:WR B g bs w) (hn:bs.length≤3000000000000) :
  Calls QP 102 #[Qp (some ⟨g,0,none⟩),.agg #[Qs s0,Qs s1,I J 2,I J ty,I J tr,I J tmn,I J tmx,G th,I J mmn,I J mmx,G mh,I J gt,G gm]] w fun e w'=>e=Qr (.tuple #[])∧WR B g (bs++(miL ⟨s0,s1,2,ty,tr,tmn,tmx,th,mmn,mmx,mh,gt,gm⟩)) w'∧FR B g w w':=by
 have HS0:=hid hs0
 have HS1:=hid hs1
 have HW0:=hid (hw.alloc (Qc #[Qs s0,Qs s1,I J 2,I J ty,I J tr,I J tmn,I J tmx,G th,I J mmn,I J mmx,G mh,I J gt,G gm] 74))
 have HF0:=hid ((FR.refl B g w).alloc (Qc #[Qs s0,Qs s1,I J 2,I J ty,I J tr,I J tmn,I J tmx,G th,I J mmn,I J mmx,G mh,I J gt,G gm] 74))
 have HX0:=hid (CA.new w #[Qs s0,Qs s1,I J 2,I J ty,I J tr,I J tmn,I J tmx,G th,I J mmn,I J mmx,G mh,I J gt,G gm] 74)
 have HNE:=hid (show w.heap.size≠g by have:=hw.lt;omega)
 obtain ⟨y0,y1,y2,y3,y4,y5,y6,y7,y8,y9,y10,y11,y12⟩:=ca13 HX0.out
 have HN0:=hid (show (bs).length≤130737488355000 by
  have h1:=strL_len s0
  have h2:=strL_len s1
  have h3:=HS0.out
  have h4:=HS1.out
  (try simp only[QA,QC,QN,QM])
  omega)
 have HN1:=hid (show (bs++strL s0).length≤130737488355000 by
  have h1:=strL_len s0
  have h2:=strL_len s1
  have h3:=HS0.out
  have h4:=HS1.out
  (try simp only[QA,QC,QN,QM])
  omega)
 have HN2:=hid (show (bs++strL s0++strL s1).length+([2]:List Int).length≤140737488355000 by
  have h1:=strL_len s0
  have h2:=strL_len s1
  have h3:=HS0.out
  have h4:=HS1.out
  (try simp only[QA,QC,QN,QM])
  omega)
 have HN3:=hid (show (bs++strL s0++strL s1++List.map byI [2]).length≤100000000000000 by
  have h1:=strL_len s0
  have h2:=strL_len s1
  have h3:=HS0.out
  have h4:=HS1.out
  (try simp only[QA,QC,QN,QM])
  omega)
 clear hw hn
 go_enter Tryz.func102,Tryz.ntmps102
 go_upto_region 1 with fail
 generalize w.alloc (Qc #[Qs s0,Qs s1,I J 2,I J ty,I J tr,I J tmn,I J tmx,G th,I J mmn,I J mmx,G mh,I J gt,G gm] 74)=w0 at *
 generalize w.heap.size=gx at *
 go_wp2_with (first
  |(go_at_call 173;(with_reducible refine (name_says B g _ s0 _ HS0.out HW0.out HN0.out).mono ?_);rintro e w1 ⟨rfl,hw',hf⟩;have HW1:=hid hw';have HF1:=hid ((HF0.out).trans hf);have HX1:=hid ((HX0.out).fr hf (by decide) HNE.out);clear y0 y1 y2 y3 y4 y5 y6 y7 y8 y9 y10 y11 y12;obtain ⟨y0,y1,y2,y3,y4,y5,y6,y7,y8,y9,y10,y11,y12⟩:=ca13 HX1.out;clear hw' hf)
  |(go_at_call 173;(with_reducible refine (name_says B g _ s1 _ HS1.out HW1.out HN1.out).mono ?_);rintro e w2 ⟨rfl,hw',hf⟩;have HW2:=hid hw';have HF2:=hid ((HF1.out).trans hf);have HX2:=hid ((HX1.out).fr hf (by decide) HNE.out);clear y0 y1 y2 y3 y4 y5 y6 y7 y8 y9 y10 y11 y12;obtain ⟨y0,y1,y2,y3,y4,y5,y6,y7,y8,y9,y10,y11,y12⟩:=ca13 HX2.out;clear hw' hf)
  |(go_at_call 169;(with_reducible refine (bytes_says B g _ [2] _ _ (HW2.out.alloc _) (LT.one (2) 1 HW2.out.lt) HN2.out).mono ?_);rintro e w3 ⟨rfl,hw',hf⟩;have HW3:=hid hw';have HF3:=hid ((HF2.out.alloc _).trans hf);have HX3:=hid ((HX2.out.alloc _).fr hf (by decide) HNE.out);clear y0 y1 y2 y3 y4 y5 y6 y7 y8 y9 y10 y11 y12;obtain ⟨y0,y1,y2,y3,y4,y5,y6,y7,y8,y9,y10,y11,y12⟩:=ca13 HX3.out;clear hw' hf)
  |(go_at_call 111;(with_reducible refine (limits_says B g _ mmn mmx mh _ HW3.out HN3.out).mono ?_);rintro e w4 ⟨rfl,hw',hf⟩;have HW4:=hid hw';have HF4:=hid ((HF3.out).trans hf);have HX4:=hid ((HX3.out).fr hf (by decide) HNE.out);clear y0 y1 y2 y3 y4 y5 y6 y7 y8 y9 y10 y11 y12;obtain ⟨y0,y1,y2,y3,y4,y5,y6,y7,y8,y9,y10,y11,y12⟩:=ca13 HX4.out;clear hw' hf))
 (first|go_end0|refine bodyPost_ret (results_none rfl _ _ _) rfl ?_)
 refine ⟨rfl,?_,HF4.out⟩
 have:=HW4.out
 simpa[miL]using this
theorem import_3 (B g:Nat) (bs:List UInt8) (s0 s1:ByteArray) (ty tr tmn tmx:Int) (th:Bool) (mmn mmx:Int) (mh:Bool) (gt:Int) (gm:Bool) (w:World) (hs0:s0.size≤1000) (hs1:s1.size≤1000) (hw:WR B g bs w) (hn:bs.length≤3000000000000) :
  Calls QP 102 #[Qp (some ⟨g,0,none⟩),.agg #[Qs s0,Qs s1,I J 3,I J ty,I J tr,I J tmn,I J tmx,G th,I J mmn,I J mmx,G mh,I J gt,G gm]] w fun e w'=>e=Qr (.tuple #[])∧WR B g (bs++(miL ⟨s0,s1,3,ty,tr,tmn,tmx,th,mmn,mmx,mh,gt,gm⟩)) w'∧FR B g w w':=by
 have HS0:=hid hs0
 have HS1:=hid hs1
 have HW0:=hid (hw.alloc (Qc #[Qs s0,Qs s1,I J 3,I J ty,I J tr,I J tmn,I J tmx,G th,I J mmn,I J mmx,G mh,I J gt,G gm] 74))
 have HF0:=hid ((FR.refl B g w).alloc (Qc #[Qs s0,Qs s1,I J 3,I J ty,I J tr,I J tmn,I J tmx,G th,I J mmn,I J mmx,G mh,I J gt,G gm] 74))
 have HX0:=hid (CA.new w #[Qs s0,Qs s1,I J 3,I J ty,I J tr,I J tmn,I J tmx,G th,I J mmn,I J mmx,G mh,I J gt,G gm] 74)
 have HNE:=hid (show w.heap.size≠g by have:=hw.lt;omega)
 obtain ⟨y0,y1,y2,y3,y4,y5,y6,y7,y8,y9,y10,y11,y12⟩:=ca13 HX0.out
 have HN0:=hid (show (bs).length≤130737488355000 by
  have h1:=strL_len s0
  have h2:=strL_len s1
  have h3:=HS0.out
  have h4:=HS1.out
  (try simp only[QA,QC,QN,QM])
  omega)
 have HN1:=hid (show (bs++strL s0).length≤130737488355000 by
  have h1:=strL_len s0
  have h2:=strL_len s1
  have h3:=HS0.out
  have h4:=HS1.out
  (try simp only[QA,QC,QN,QM])
  omega)
 have HN2:=hid (show (bs++strL s0++strL s1).length+([3]:List Int).length≤140737488355000 by
  have h1:=strL_len s0
  have h2:=strL_len s1
  have h3:=HS0.out
  have h4:=HS1.out
  (try simp only[QA,QC,QN,QM])
  omega)
 have HN3:=hid (show (bs++strL s0++strL s1++List.map byI [3]).length≤100000000000000 by
  have h1:=strL_len s0
  have h2:=strL_len s1
  have h3:=HS0.out
  have h4:=HS1.out
  (try simp only[QA,QC,QN,QM])
  omega)
 clear hw hn
 go_enter Tryz.func102,Tryz.ntmps102
 go_upto_region 1 with fail
 generalize w.alloc (Qc #[Qs s0,Qs s1,I J 3,I J ty,I J tr,I J tmn,I J tmx,G th,I J mmn,I J mmx,G mh,I J gt,G gm] 74)=w0 at *
 generalize w.heap.size=gx at *
 go_wp2_with (first
  |(go_at_call 173;(with_reducible refine (name_says B g _ s0 _ HS0.out HW0.out HN0.out).mono ?_);rintro e w1 ⟨rfl,hw',hf⟩;have HW1:=hid hw';have HF1:=hid ((HF0.out).trans hf);have HX1:=hid ((HX0.out).fr hf (by decide) HNE.out);clear y0 y1 y2 y3 y4 y5 y6 y7 y8 y9 y10 y11 y12;obtain ⟨y0,y1,y2,y3,y4,y5,y6,y7,y8,y9,y10,y11,y12⟩:=ca13 HX1.out;clear hw' hf)
  |(go_at_call 173;(with_reducible refine (name_says B g _ s1 _ HS1.out HW1.out HN1.out).mono ?_);rintro e w2 ⟨rfl,hw',hf⟩;have HW2:=hid hw';have HF2:=hid ((HF1.out).trans hf);have HX2:=hid ((HX1.out).fr hf (by decide) HNE.out);clear y0 y1 y2 y3 y4 y5 y6 y7 y8 y9 y10 y11 y12;obtain ⟨y0,y1,y2,y3,y4,y5,y6,y7,y8,y9,y10,y11,y12⟩:=ca13 HX2.out;clear hw' hf)
  |(go_at_call 169;(with_reducible refine (bytes_says B g _ [3] _ _ (HW2.out.alloc _) (LT.one (3) 1 HW2.out.lt) HN2.out).mono ?_);rintro e w3 ⟨rfl,hw',hf⟩;have HW3:=hid hw';have HF3:=hid ((HF2.out.alloc _).trans hf);have HX3:=hid ((HX2.out.alloc _).fr hf (by decide) HNE.out);clear y0 y1 y2 y3 y4 y5 y6 y7 y8 y9 y10 y11 y12;obtain ⟨y0,y1,y2,y3,y4,y5,y6,y7,y8,y9,y10,y11,y12⟩:=ca13 HX3.out;clear hw' hf)
  |(go_at_call 174;(with_reducible refine (gtype_says B g _ gt gm _ HW3.out HN3.out).mono ?_);rintro e w4 ⟨rfl,hw',hf⟩;have HW4:=hid hw';have HF4:=hid ((HF3.out).trans hf);have HX4:=hid ((HX3.out).fr hf (by decide) HNE.out);clear y0 y1 y2 y3 y4 y5 y6 y7 y8 y9 y10 y11 y12;obtain ⟨y0,y1,y2,y3,y4,y5,y6,y7,y8,y9,y10,y11,y12⟩:=ca13 HX4.out;clear hw' hf))
 (first|go_end0|refine bodyPost_ret (results_none rfl _ _ _) rfl ?_)
 refine ⟨rfl,?_,HF4.out⟩
 have:=HW4.out
 simpa[miL]using this
theorem import_says (B g:Nat) (bs:List UInt8) (s0 s1:ByteArray) (kd ty tr tmn tmx:Int) (th:Bool) (mmn mmx:Int) (mh:Bool) (gt:Int) (gm:Bool) (w:World) (hk:kindB kd=true) (hs0:s0.size≤1000) (hs1:s1.size≤1000) (hw:WR B g bs w) (hn:bs.length≤3000000000000) :
  Calls QP 102 #[Qp (some ⟨g,0,none⟩),.agg #[Qs s0,Qs s1,I J kd,I J ty,I J tr,I J tmn,I J tmx,G th,I J mmn,I J mmx,G mh,I J gt,G gm]] w fun e w'=>e=Qr (.tuple #[])∧WR B g (bs++miL ⟨s0,s1,kd,ty,tr,tmn,tmx,th,mmn,mmx,mh,gt,gm⟩) w'∧FR B g w w':=by
 have hk':kd=0∨kd=1∨kd=2∨kd=3:=by
  unfold kindB at hk
  simp only[Bool.or_eq_true,beq_iff_eq]at hk
  omega
 rcases hk' with rfl|rfl|rfl|rfl
 ·exact import_0 B g bs s0 s1 ty tr tmn tmx th mmn mmx mh gt gm w hs0 hs1 hw hn
 ·exact import_1 B g bs s0 s1 ty tr tmn tmx th mmn mmx mh gt gm w hs0 hs1 hw hn
 ·exact import_2 B g bs s0 s1 ty tr tmn tmx th mmn mmx mh gt gm w hs0 hs1 hw hn
 exact import_3 B g bs s0 s1 ty tr tmn tmx th mmn mmx mh gt gm w hs0 hs1 hw hn
theorem mc_Typ (B g b:Nat) (bs:List UInt8) (a b0:List Int) (pa pb:Option Addr) (ca cb L:Nat) (w:World) (hL:L≤lo B g) (ha:LI L w (V pa a.length ca) a) (hb0:LI L w (V pb b0.length cb) b0) (ha0:a.length≤1000) (hb1:b0.length≤1000) (hbg:b≠g) (hb:CA b #[Qp (some ⟨g,0,none⟩)] 135 w) (hw:WR B g bs w) (hn:bs.length≤3000000000000) :
  Calls QP 98 #[.agg #[V pa a.length ca,V pb b0.length cb],Qp (some ⟨b,0,none⟩)] w fun e w'=>e=Qr (.tuple #[])∧WR B g (bs++mtL ⟨a,pa,ca,b0,pb,cb⟩) w'∧FR B g w w':=by
 have HX0:=hid (CA.new w #[V pa a.length ca,V pb b0.length cb] 67)
 have HB0:=hid (hb.alloc (Qc #[V pa a.length ca,V pb b0.length cb] 67))
 have HF0:=hid ((FR.refl B g w).alloc (Qc #[V pa a.length ca,V pb b0.length cb] 67))
 have hba:=(QB w.heap.size w).alloc (Ql _) (Qc #[V pa a.length ca,V pb b0.length cb] 67)
 have HC:=hid (ftype_says B g bs a b0 pa pb ca cb L (w.alloc (Qc #[V pa a.length ca,V pb b0.length cb] 67)) hL (ha.below (hba.mono (by have:=hw.1;have:=lo_B B g;omega))) (hb0.below (hba.mono (by have:=hw.1;have:=lo_B B g;omega))) ha0 hb1 (hw.alloc (Qc #[V pa a.length ca,V pb b0.length cb] 67)) hn)
 clear hb hw hn hba ha hb0 ha0 hb1
 go_enter Tryz.func98,Tryz.ntmps98
 go_upto_region 1 with fail
 generalize w.alloc (Qc #[V pa a.length ca,V pb b0.length cb] 67)=w0 at *
 generalize w.heap.size=gx at *
 have y0:=HB0.out.at (k:=0) (v:=Qp (some ⟨g,0,none⟩)) rfl
 have x0:=HX0.out.at (k:=0) (v:=V pa a.length ca) rfl
 have x1:=HX0.out.at (k:=1) (v:=V pb b0.length cb) rfl
 go_wp2_with (go_at_call 99;(with_reducible refine HC.out.mono ?_);rintro e w1 ⟨rfl,hw',hf⟩;have HW1:=hid hw';have HF1:=hid (HF0.out.trans hf);clear hw' hf)
 (first|go_end0|refine bodyPost_ret (results_none rfl _ _ _) rfl ?_)
 exact ⟨rfl,HW1.out,HF1.out⟩
theorem mc_Imp (B g b:Nat) (bs:List UInt8) (s0 s1:ByteArray) (kd ty tr tmn tmx:Int) (th:Bool) (mmn mmx:Int) (mh:Bool) (gt:Int) (gm:Bool) (w:World) (hk:kindB kd=true) (hs0:s0.size≤1000) (hs1:s1.size≤1000) (hbg:b≠g) (hb:CA b #[Qp (some ⟨g,0,none⟩)] 135 w) (hw:WR B g bs w) (hn:bs.length≤3000000000000) :
  Calls QP 101 #[.agg #[Qs s0,Qs s1,I J kd,I J ty,I J tr,I J tmn,I J tmx,G th,I J mmn,I J mmx,G mh,I J gt,G gm],Qp (some ⟨b,0,none⟩)] w fun e w'=>e=Qr (.tuple #[])∧WR B g (bs++miL ⟨s0,s1,kd,ty,tr,tmn,tmx,th,mmn,mmx,mh,gt,gm⟩) w'∧FR B g w w':=by
 have HX0:=hid (CA.new w #[Qs s0,Qs s1,I J kd,I J ty,I J tr,I J tmn,I J tmx,G th,I J mmn,I J mmx,G mh,I J gt,G gm] 74)
 have HB0:=hid (hb.alloc (Qc #[Qs s0,Qs s1,I J kd,I J ty,I J tr,I J tmn,I J tmx,G th,I J mmn,I J mmx,G mh,I J gt,G gm] 74))
 have HF0:=hid ((FR.refl B g w).alloc (Qc #[Qs s0,Qs s1,I J kd,I J ty,I J tr,I J tmn,I J tmx,G th,I J mmn,I J mmx,G mh,I J gt,G gm] 74))
 have hba:=(QB w.heap.size w).alloc (Ql _) (Qc #[Qs s0,Qs s1,I J kd,I J ty,I J tr,I J tmn,I J tmx,G th,I J mmn,I J mmx,G mh,I J gt,G gm] 74)
 have HC:=hid (import_says B g bs s0 s1 kd ty tr tmn tmx th mmn mmx mh gt gm (w.alloc (Qc #[Qs s0,Qs s1,I J kd,I J ty,I J tr,I J tmn,I J tmx,G th,I J mmn,I J mmx,G mh,I J gt,G gm] 74)) hk hs0 hs1 (hw.alloc (Qc #[Qs s0,Qs s1,I J kd,I J ty,I J tr,I J tmn,I J tmx,G th,I J mmn,I J mmx,G mh,I J gt,G gm] 74)) hn)
 clear hb hw hn hba hk hs0 hs1
 go_enter Tryz.func101,Tryz.ntmps101
 go_upto_region 1 with fail
 generalize w.alloc (Qc #[Qs s0,Qs s1,I J kd,I J ty,I J tr,I J tmn,I J tmx,G th,I J mmn,I J mmx,G mh,I J gt,G gm] 74)=w0 at *
 generalize w.heap.size=gx at *
 have y0:=HB0.out.at (k:=0) (v:=Qp (some ⟨g,0,none⟩)) rfl
 obtain ⟨x0,x1,x2,x3,x4,x5,x6,x7,x8,x9,x10,x11,x12⟩:=ca13 HX0.out
 go_wp2_with (go_at_call 102;(with_reducible refine HC.out.mono ?_);rintro e w1 ⟨rfl,hw',hf⟩;have HW1:=hid hw';have HF1:=hid (HF0.out.trans hf);clear hw' hf)
 (first|go_end0|refine bodyPost_ret (results_none rfl _ _ _) rfl ?_)
 exact ⟨rfl,HW1.out,HF1.out⟩
theorem mc_FunT (B g b:Nat) (bs:List UInt8) (ty:Int) (pl pf:Option Addr) (nl cl nf cf:Nat) (w:World) (hbg:b≠g) (hb:CA b #[Qp (some ⟨g,0,none⟩)] 135 w) (hw:WR B g bs w) (hn:bs.length≤3000000000000) :
  Calls QP 104 #[.agg #[I J ty,V pl nl cl,V pf nf cf],Qp (some ⟨b,0,none⟩)] w fun e w'=>e=Qr (.tuple #[])∧WR B g (bs++uI ty) w'∧FR B g w w':=by
 have HX0:=hid (CA.new w #[I J ty,V pl nl cl,V pf nf cf] 42)
 have HB0:=hid (hb.alloc (Qc #[I J ty,V pl nl cl,V pf nf cf] 42))
 have HF0:=hid ((FR.refl B g w).alloc (Qc #[I J ty,V pl nl cl,V pf nf cf] 42))
 have hba:=(QB w.heap.size w).alloc (Ql _) (Qc #[I J ty,V pl nl cl,V pf nf cf] 42)
 have HC:=hid (u_says B g bs ty (w.alloc (Qc #[I J ty,V pl nl cl,V pf nf cf] 42)) (hw.alloc (Qc #[I J ty,V pl nl cl,V pf nf cf] 42)).1 (hw.alloc (Qc #[I J ty,V pl nl cl,V pf nf cf] 42)) (by omega))
 clear hb hw hn hba
 go_enter Tryz.func104,Tryz.ntmps104
 go_upto_region 1 with fail
 generalize w.alloc (Qc #[I J ty,V pl nl cl,V pf nf cf] 42)=w0 at *
 generalize w.heap.size=gx at *
 have y0:=HB0.out.at (k:=0) (v:=Qp (some ⟨g,0,none⟩)) rfl
 have x0:=HX0.out.at (k:=0) (v:=I J ty) rfl
 have x1:=HX0.out.at (k:=1) (v:=V pl nl cl) rfl
 have x2:=HX0.out.at (k:=2) (v:=V pf nf cf) rfl
 go_wp2_with (go_at_call 105;(with_reducible refine HC.out.mono ?_);rintro e w1 ⟨rfl,hw',hf⟩;have HW1:=hid hw';have HF1:=hid (HF0.out.trans hf);clear hw' hf)
 (first|go_end0|refine bodyPost_ret (results_none rfl _ _ _) rfl ?_)
 exact ⟨rfl,HW1.out,HF1.out⟩
theorem mc_Tab (B g b:Nat) (bs:List UInt8) (r mn mx:Int) (h:Bool) (w:World) (hbg:b≠g) (hb:CA b #[Qp (some ⟨g,0,none⟩)] 135 w) (hw:WR B g bs w) (hn:bs.length≤3000000000000) :
  Calls QP 107 #[.agg #[I J r,I J mn,I J mx,G h],Qp (some ⟨b,0,none⟩)] w fun e w'=>e=Qr (.tuple #[])∧WR B g (bs++tabL r mn mx h) w'∧FR B g w w':=by
 have HX0:=hid (CA.new w #[I J r,I J mn,I J mx,G h] 72)
 have HB0:=hid (hb.alloc (Qc #[I J r,I J mn,I J mx,G h] 72))
 have HF0:=hid ((FR.refl B g w).alloc (Qc #[I J r,I J mn,I J mx,G h] 72))
 have hba:=(QB w.heap.size w).alloc (Ql _) (Qc #[I J r,I J mn,I J mx,G h] 72)
 have HC:=hid (ttype_says B g bs r mn mx h (w.alloc (Qc #[I J r,I J mn,I J mx,G h] 72)) (hw.alloc (Qc #[I J r,I J mn,I J mx,G h] 72)) (by omega))
 clear hb hw hn hba
 go_enter Tryz.func107,Tryz.ntmps107
 go_upto_region 1 with fail
 generalize w.alloc (Qc #[I J r,I J mn,I J mx,G h] 72)=w0 at *
 generalize w.heap.size=gx at *
 have y0:=HB0.out.at (k:=0) (v:=Qp (some ⟨g,0,none⟩)) rfl
 have x0:=HX0.out.at (k:=0) (v:=I J r) rfl
 have x1:=HX0.out.at (k:=1) (v:=I J mn) rfl
 have x2:=HX0.out.at (k:=2) (v:=I J mx) rfl
 have x3:=HX0.out.at (k:=3) (v:=G h) rfl
 go_wp2_with (go_at_call 108;(with_reducible refine HC.out.mono ?_);rintro e w1 ⟨rfl,hw',hf⟩;have HW1:=hid hw';have HF1:=hid (HF0.out.trans hf);clear hw' hf)
 (first|go_end0|refine bodyPost_ret (results_none rfl _ _ _) rfl ?_)
 exact ⟨rfl,HW1.out,HF1.out⟩
theorem mc_Lim (B g b:Nat) (bs:List UInt8) (mn mx:Int) (h:Bool) (w:World) (hbg:b≠g) (hb:CA b #[Qp (some ⟨g,0,none⟩)] 135 w) (hw:WR B g bs w) (hn:bs.length≤3000000000000) :
  Calls QP 110 #[.agg #[I J mn,I J mx,G h],Qp (some ⟨b,0,none⟩)] w fun e w'=>e=Qr (.tuple #[])∧WR B g (bs++limL mn mx h) w'∧FR B g w w':=by
 have HX0:=hid (CA.new w #[I J mn,I J mx,G h] 70)
 have HB0:=hid (hb.alloc (Qc #[I J mn,I J mx,G h] 70))
 have HF0:=hid ((FR.refl B g w).alloc (Qc #[I J mn,I J mx,G h] 70))
 have hba:=(QB w.heap.size w).alloc (Ql _) (Qc #[I J mn,I J mx,G h] 70)
 have HC:=hid (limits_says B g bs mn mx h (w.alloc (Qc #[I J mn,I J mx,G h] 70)) (hw.alloc (Qc #[I J mn,I J mx,G h] 70)) (by omega))
 clear hb hw hn hba
 go_enter Tryz.func110,Tryz.ntmps110
 go_upto_region 1 with fail
 generalize w.alloc (Qc #[I J mn,I J mx,G h] 70)=w0 at *
 generalize w.heap.size=gx at *
 have y0:=HB0.out.at (k:=0) (v:=Qp (some ⟨g,0,none⟩)) rfl
 have x0:=HX0.out.at (k:=0) (v:=I J mn) rfl
 have x1:=HX0.out.at (k:=1) (v:=I J mx) rfl
 have x2:=HX0.out.at (k:=2) (v:=G h) rfl
 go_wp2_with (go_at_call 111;(with_reducible refine HC.out.mono ?_);rintro e w1 ⟨rfl,hw',hf⟩;have HW1:=hid hw';have HF1:=hid (HF0.out.trans hf);clear hw' hf)
 (first|go_end0|refine bodyPost_ret (results_none rfl _ _ _) rfl ?_)
 exact ⟨rfl,HW1.out,HF1.out⟩
theorem mc_Glo (B g b:Nat) (bs:List UInt8) (t:Int) (m:Bool) (f:Fo) (pf:Option Addr) (cf:Nat) (w:World) (hct:f.cnt<9223372036854775806) (hok:okE f) (hsz:f.siz≤61200000) (hs:SA (lo B g) w (V pf f.len cf) f) (hbg:b≠g) (hb:CA b #[Qp (some ⟨g,0,none⟩)] 135 w) (hw:WR B g bs w) (hn:bs.length≤3000000000000) :
  Calls QP 113 #[.agg #[I J t,G m,V pf f.len cf],Qp (some ⟨b,0,none⟩)] w fun e w'=>e=Qr (.tuple #[])∧WR B g (bs++mgL ⟨t,m,f,pf,cf⟩) w'∧FR B g w w':=by
 have HX0:=hid (CA.new w #[I J t,G m,V pf f.len cf] 46)
 have HB0:=hid (hb.alloc (Qc #[I J t,G m,V pf f.len cf] 46))
 have HF0:=hid ((FR.refl B g w).alloc (Qc #[I J t,G m,V pf f.len cf] 46))
 have hba:=(QB w.heap.size w).alloc (Ql _) (Qc #[I J t,G m,V pf f.len cf] 46)
 have HC:=hid (global_says B g bs t m f pf cf (w.alloc (Qc #[I J t,G m,V pf f.len cf] 46)) hct hok hsz (SA.below hs (hba.mono (by have:=hw.1;have:=lo_B B g;omega))) (hw.alloc (Qc #[I J t,G m,V pf f.len cf] 46)) hn)
 clear hb hw hn hba hct hok hsz hs
 go_enter Tryz.func113,Tryz.ntmps113
 go_upto_region 1 with fail
 generalize w.alloc (Qc #[I J t,G m,V pf f.len cf] 46)=w0 at *
 generalize w.heap.size=gx at *
 have y0:=HB0.out.at (k:=0) (v:=Qp (some ⟨g,0,none⟩)) rfl
 have x0:=HX0.out.at (k:=0) (v:=I J t) rfl
 have x1:=HX0.out.at (k:=1) (v:=G m) rfl
 have x2:=HX0.out.at (k:=2) (v:=V pf f.len cf) rfl
 go_wp2_with (go_at_call 114;(with_reducible refine HC.out.mono ?_);rintro e w1 ⟨rfl,hw',hf⟩;have HW1:=hid hw';have HF1:=hid (HF0.out.trans hf);clear hw' hf)
 (first|go_end0|refine bodyPost_ret (results_none rfl _ _ _) rfl ?_)
 exact ⟨rfl,HW1.out,HF1.out⟩
theorem mc_Exp (B g b:Nat) (bs:List UInt8) (s:ByteArray) (k ix:Int) (w:World) (hs:s.size≤1000) (hbg:b≠g) (hb:CA b #[Qp (some ⟨g,0,none⟩)] 135 w) (hw:WR B g bs w) (hn:bs.length≤3000000000000) :
  Calls QP 116 #[.agg #[Qs s,I J k,I J ix],Qp (some ⟨b,0,none⟩)] w fun e w'=>e=Qr (.tuple #[])∧WR B g (bs++mxL ⟨s,k,ix⟩) w'∧FR B g w w':=by
 have HX0:=hid (CA.new w #[Qs s,I J k,I J ix] 76)
 have HB0:=hid (hb.alloc (Qc #[Qs s,I J k,I J ix] 76))
 have HF0:=hid ((FR.refl B g w).alloc (Qc #[Qs s,I J k,I J ix] 76))
 have hba:=(QB w.heap.size w).alloc (Ql _) (Qc #[Qs s,I J k,I J ix] 76)
 have HC:=hid (export_says B g bs s k ix (w.alloc (Qc #[Qs s,I J k,I J ix] 76)) hs (hw.alloc (Qc #[Qs s,I J k,I J ix] 76)) hn)
 clear hb hw hn hba hs
 go_enter Tryz.func116,Tryz.ntmps116
 go_upto_region 1 with fail
 generalize w.alloc (Qc #[Qs s,I J k,I J ix] 76)=w0 at *
 generalize w.heap.size=gx at *
 have y0:=HB0.out.at (k:=0) (v:=Qp (some ⟨g,0,none⟩)) rfl
 have x0:=HX0.out.at (k:=0) (v:=Qs s) rfl
 have x1:=HX0.out.at (k:=1) (v:=I J k) rfl
 have x2:=HX0.out.at (k:=2) (v:=I J ix) rfl
 go_wp2_with (go_at_call 117;(with_reducible refine HC.out.mono ?_);rintro e w1 ⟨rfl,hw',hf⟩;have HW1:=hid hw';have HF1:=hid (HF0.out.trans hf);clear hw' hf)
 (first|go_end0|refine bodyPost_ret (results_none rfl _ _ _) rfl ?_)
 exact ⟨rfl,HW1.out,HF1.out⟩
theorem runs_last:∀(l:List Int) (a:Int),∃pre n,runsL (l++[a])=pre++[(n,a)]∧∀x,runsL (l++[a]++[x])=if x=a then pre++[(n+1,a)] else pre++[(n,a),(1,x)]
 | [],a=>by
  refine ⟨[],1,rfl,fun x=>?_⟩
  show runsL [a,x]=_
  simp only[runsL,List.nil_append]
  by_cases h:x=a
  ·subst h
   simp
  ·rw[if_neg h,if_neg (fun e=>h e.symm)]
 |b::t,a=>by
  obtain ⟨pre,n,h1,h2⟩:=runs_last t a
  rcases pre with _|⟨⟨m,z⟩,ps⟩
  ·by_cases hb:b=a
   ·subst hb
    refine ⟨[],n+1,?_,fun x=>?_⟩
    ·show runsL (b::(t++[b]))=_
     rw[runsL,h1]
     simp
    show runsL (b::(t++[b]++[x]))=_
    rw[runsL,h2]
    by_cases hx:x=b
    ·simp[hx]
    simp[hx]
   refine ⟨[(1,b)],n,?_,fun x=>?_⟩
   ·show runsL (b::(t++[a]))=_
    rw[runsL,h1]
    simp[hb]
   show runsL (b::(t++[a]++[x]))=_
   rw[runsL,h2]
   by_cases hx:x=a
   ·simp[hx,hb]
   simp[hx,hb]
  by_cases hb:b=z
  ·subst hb
   refine ⟨(m+1,b)::ps,n,?_,fun x=>?_⟩
   ·show runsL (b::(t++[a]))=_
    rw[runsL,h1]
    simp
   show runsL (b::(t++[a]++[x]))=_
   rw[runsL,h2]
   by_cases hx:x=a
   ·simp[hx]
   simp[hx]
  refine ⟨(1,b)::(m,z)::ps,n,?_,fun x=>?_⟩
  ·show runsL (b::(t++[a]))=_
   rw[runsL,h1]
   simp[hb]
  show runsL (b::(t++[a]++[x]))=_
  rw[runsL,h2]
  by_cases hx:x=a
  ·simp[hx,hb]
  simp[hx,hb]
theorem runs_le:∀l:List Int,(runsL l).length≤l.length
 | []=>Ql _
 |x::l=>by
  have:=runs_le l
  rw[runsL]
  split
  ·simp
  rename_i n y r h
  rw[h]at this
  split<;>simp only[QC]at this ⊢<;>omega
theorem runs_cnt:∀(l:List Int) (r:Nat × Int),r∈runsL l→1≤r.1∧r.1≤l.length
 | [],r,h=>by simp[runsL]at h
 |x::l,r,h=>by
  have ih:=runs_cnt l
  rw[runsL]at h
  split at h
  ·simp at h
   subst h
   simp
  rename_i n y rs hh
  rw[hh]at ih
  split at h
  ·rcases List.mem_cons.1 h with rfl|h
   ·have:=ih (n,y) (by simp)
    simp only[QC]at this ⊢
    omega
   have:=ih r (by simp[h])
   simp only[QC]
   omega
  rcases List.mem_cons.1 h with rfl|h
  ·simp
  have:=ih r h
  simp only[QC]
  omega
def rcs:List (Nat × Int)→List Value
 | []=>[]
 |r::l=>I J r.1::I J r.2::rcs l
theorem rcs_len:∀l,(rcs l).length=l.length*2
 | []=>rfl
 |r::l=>by simp only[rcs,QC,rcs_len l];omega
theorem rcs_app:∀l m,rcs (l++m)=rcs l++rcs m
 | [],m=>rfl
 |r::l,m=>by simp only[List.cons_append,rcs,rcs_app l m]
theorem rcs_at:∀(l:List (Nat × Int)) (i:Nat) (r:Nat × Int),l[i]?=some r→(rcs l)[i*2]?=some (I J r.1)∧(rcs l)[i*2+1]?=some (I J r.2)
 | [],i,r,h=>by simp at h
 |x::l,0,r,h=>by
  simp at h
  subst h
  exact ⟨rfl,rfl⟩
 |x::l,i+1,r,h=>by
  have:=rcs_at l i r (by simpa using h)
  rw[show (i+1)*2=i*2+1+1 by omega]
  simpa[rcs]using this
theorem rcs_set (pre:List (Nat × Int)) (n n':Nat) (a:Int):(rcs (pre++[(n,a)])).set (pre.length*2) (I J n')=rcs (pre++[(n',a)]):=by
 rw[rcs_app,rcs_app,←rcs_len pre,List.set_append_right _ _ (Ql _),Nat.sub_self]
 rfl
theorem info199:(Tryz.prog.info? 199).map (fun i=>(i.zero,i.size,i.bytes))=some (some (.agg #[I J 0,I J 0]),2,16):=by kernel_rfl
theorem append_run {w:World} {ops:Array Oper} {rest:List Oper} {o:Oper} {a:Act} {Q:Exit→Act→World→Prop} (hgd:o.guard=none) (s x:Operand)
  (ho:o.op=.call { callee:=.builtin .append,args:=#[s,x],argTypes:=#[200,200] }) (B:Nat) (rs:List (Nat × Int)) (v:Value) (t:Int) (W0:World)
  (hBw:W0.heap.size≤w.heap.size) (hown:w.ownsRow W0.heap.size 199 2 v rs.length (rcs rs)) (hn:rs.length+1≤1000000000000) (hf:Below W0.heap.size W0 w) (n0:Nat) (h0:w.heap.size=n0) (hs:a.eval s=v) (hx:a.eval x=V (some ⟨n0,0,none⟩) 1 1)
  (h:∀g c w',w'.ownsRow W0.heap.size 199 2 (V (some ⟨g,0,none⟩) (rs.length+1) c) (rs.length+1) (rcs (rs++[(0,t)]))→Below W0.heap.size W0 w'→wpList QP ops Q rest (a.put o.dst (V (some ⟨g,0,none⟩) (rs.length+1) c)) w') :
  wpList QP ops Q (o::rest) a (w.alloc (Qc #[I J 0,I J t] 199)):=by
 subst h0
 obtain ⟨i0,hi,hz0,hz1,hz2⟩:=info_parts info199
 refine wpList_append_own _ hgd s x 200 ho W0.heap.size 199 i0 (.agg #[I J 0,I J 0]) 2 16 Tryz.underlying200 hi hz0 hz1 hz2 rfl (by decide) v rs.length (rcs rs) hs (hown.alloc _) ⟨w.heap.size,0,none⟩ 1 1 [I J 0,I J t] hx rfl ?_
  (fun u hu=>by simp at hu;rcases hu with rfl|rfl<;>rfl) (by unfold maxLen;omega) (by omega) (by rw[size_al];omega) ?_
 ·intro j u hj
  have hc:=CA.new w #[I J 0,I J t] 199
  match j,hj with
  |0,hj=>simp at hj;subst hj;exact hc.at rfl
  |1,hj=>simp at hj;subst hj;exact hc.at rfl
  |j+2,hj=>simp at hj
 intro v' w1 hown' hgrow _
 have hr:rcs (rs++[(0,t)])=rcs rs++[I J 0,I J t]:=by rw[rcs_app];rfl
 rcases hown'.2 with ⟨_,h2⟩|⟨g,cap,cur,rfl,hh⟩
 ·omega
 refine h g cap w1 (by rw[hr];exact hown') ?_
 have hga:=hf.alloc hBw (Qc #[I J 0,I J t] 199)
 exact ⟨hgrow.os.trans hga.os,hgrow.tape.trans hga.tape,hgrow.output.trans hga.output,Qk hga.size hgrow.size,fun k hk=>(hgrow.block k (by have:=hga.size;omega) (fun e=>by have:=(hown.lt k e.symm).1;omega)).trans (hga.block k hk)⟩
structure Sm (n:Nat):Prop where
 out:n≤1000000000000
theorem runs_says (l:List Int) (v:Value) (B0:Nat) (w:World) (hB:B0≤w.heap.size) (hl:LI B0 w v l) (hll:l.length≤100000000000) :
  Calls QP 196 #[v] w fun e w'=>∃v',e=Qr v'∧w'.ownsRow w.heap.size 199 2 v' (runsL l).length (rcs (runsL l))∧Below w.heap.size w w':=by
 obtain ⟨p,c,rfl,hq,hl2⟩:=hl
 obtain ⟨n,hnl⟩:∃n,n=l.length:=⟨_,rfl⟩
 have HNL:=hid hnl
 rw[←hnl]at hq hll ⊢
 have HP:=hid hl2
 have HBW:=hid hB
 have HLL:Sm (n+1):=⟨by omega⟩
 have hn62:(n:Int)<9223372036854775807:=by omega
 clear hl2 hnl hq hB hll
 go_enter Tryz.func196,Tryz.ntmps196
 go_wp2
 go_loopw [3,8] (fun vo vi wr=>∃(i:Nat) (p:Option Addr) (q c:Nat),i≤n∧vi=I J i∧vo=V p q c∧Hid (wr.ownsRow w.heap.size 199 2 (V p q c) (runsL (l.take i)).length (rcs (runsL (l.take i))))∧Hid (Below w.heap.size w wr)) (fun _ vi _=>n-(intOf vi).toNat)
 case atStart=>exact ⟨0,none,0,0,Qz _,rfl,rfl,World.ownsRow_nil _ _ _ _,QB _ _⟩
 obtain ⟨i,p1,q1,c1,hi,rfl,rfl,HR,HF⟩:=hrel
 by_cases hlt:i<n
 ·have hll:i<l.length:=by rw[←HNL.out];exact hlt
  obtain ⟨x,hx⟩:∃x,l[i]?=some x:=⟨l[i],List.getElem?_eq_getElem hll⟩
  obtain ⟨k,o,rfl,hk,hcell⟩:=HP.out (by intro e;rw[e]at hll;simp at hll)
  have hk':k<w.heap.size:=Nat.lt_of_lt_of_le hk HBW.out
  have z0:=(HF.out.cell (p:=⟨k,o+i,none⟩) hk').trans (hcell i x hx)
  have HTK:=hid (show l.take (i+1)=l.take i++[x] by rw[List.take_add_one,hx];rfl)
  have HLE:Sm ((runsL (l.take i)).length+1):=⟨by
   have h1:=runs_le (l.take i)
   have h2:=HLL.out
   simp only[List.length_take]at h1
   omega⟩
  have hq1:q1=(runsL (l.take i)).length:=by
   rcases HR.out.2 with ⟨h2,h3⟩|⟨g,cap,cur,h1,_⟩
   ·injection h2 with _ e _
    omega
   injection h1
  have HADD:Hid (∀(gx cx:Nat) (wx:World),Hid (wx.ownsRow w.heap.size 199 2 (V (some ⟨gx,0,none⟩) ((runsL (l.take i)).length+1) cx) ((runsL (l.take i)).length+1) (rcs (runsL (l.take i)++[(0,x)])))→Hid (wx.cell? ⟨gx,(runsL (l.take i)).length*2,none⟩=some (I J 0)∧wx.frozen? ⟨gx,(runsL (l.take i)).length*2,none⟩=false)):=by
   refine hid fun gx cx wx h=>?_
   refine hid ⟨?_,h.out.frozenAt _⟩
   rw[h.out.cellAt _ (by omega)]
   exact (rcs_at _ (runsL (l.take i)).length (0,x) (by simp)).1
  have key:((i=0∨∃j a,i=j+1∧l[j]?=some a∧x≠a)∧runsL (l.take (i+1))=runsL (l.take i)++[(1,x)])∨(∃j,i=j+1∧l[j]?=some x∧∃pre m,runsL (l.take i)=pre++[(m,x)]∧runsL (l.take (i+1))=pre++[(m+1,x)]):=by
   rw[HTK.out]
   rcases i with _|j
   ·exact .inl ⟨.inl rfl,by simp[runsL]⟩
   obtain ⟨a,ha⟩:∃a,l[j]?=some a:=⟨l[j],List.getElem?_eq_getElem (by omega)⟩
   have hj:l.take (j+1)=l.take j++[a]:=by rw[List.take_add_one,ha];rfl
   obtain ⟨pre,m,h1,h2⟩:=runs_last (l.take j) a
   rw[hj,h1,h2]
   by_cases hxa:x=a
   ·subst hxa
    exact .inr ⟨j,rfl,ha,pre,m,rfl,by rw[if_pos rfl]⟩
   refine .inl ⟨.inr ⟨j,a,rfl,ha,hxa⟩,?_⟩
   rw[if_neg hxa,QS]
   rfl
  have HCN:=hid (fun (r:Nat × Int) (h:r∈runsL (l.take i))=>(Qk (runs_cnt _ r h).2 (by rw[List.length_take];omega):r.1≤n))
  generalize runsL (l.take i)=rs at *
  subst hq1
  rcases key with ⟨hA,hN⟩|⟨j,hij,hpj,pre,m,rfl,hN⟩
  ·have HN:=hid hN
   rcases hA with rfl|⟨j,a,hij,hpj,hxa⟩
   ·clear hcell hx hk hk' hll hi hN
    rw[Nat.add_zero]at z0
    rw[show ((0:Nat):Int)=0 from rfl]
    go_upto_region 7 with (at_builtin;refine append_run rfl _ _ rfl 0 rs _ x w HF.out.size HR.out HLE.out HF.out _ rfl rfl rfl ?_;intro g2 c2 w2 ho2 hb2;have HO2:=hid ho2;have HB2:=hid hb2;obtain ⟨y0,y1⟩:=(HADD.out g2 c2 w2 HO2).out;clear ho2 hb2)
    obtain ⟨r,hr⟩:∃r,r=rs.length:=⟨_,rfl⟩
    have hrl:=HLE.out
    rw[←hr]at y0 y1 hrl HO2 ⊢
    have HRL:=hid hr
    have hwr:wrap64 ((r:Int)+1-1)=(r:Int):=by unfold wrap64;omega
    have hrb:(r:Int)<9223372036854775806:=by omega
    have HGB:=hid (HO2.out.lt g2 rfl).1
    clear hr hrl
    go_wp2
    have HO3:=hid (HO2.out.stored (r*2) (I J 1)).1
    have HB3:=hid (HB2.out.setCell (p:=⟨g2,r*2,none⟩) HGB.out (I J 1))
    go_roundw
    case rel =>
     refine ⟨0+1,some ⟨g2,0,none⟩,r+1,c2,hlt,by go_num,rfl,?_,HB3⟩
     have h1:=HO3.out
     have h2:=rcs_set rs 0 1 x
     rw[←HRL.out]at h2
     rw[HN.out,QA,←HRL.out]
     rw[←h2]
     exact h1
    case measure=>simp[intOf];omega
   have z1:=(HF.out.cell (p:=⟨k,o+j,none⟩) hk').trans (hcell j a hpj)
   have d1:(x==a)=false:=by simpa using hxa
   have hwj:wrap64 ((i:Int)-1)=(j:Int):=by unfold wrap64;omega
   have d0:((i:Int)==0)=false:=by simp;omega
   have d2:j<n:=by omega
   have d3:(0:Int)<(i:Int):=by omega
   have d4:0<i:=by omega
   have d5:¬(n:Int)≤(j:Int):=by omega
   have d6:(j:Int)<(n:Int):=by omega
   have hwk:IntKind.i64.wrap ((i:Int)-1)=(j:Int):=by rw[IntKind.wrap_i64];unfold wrap64 at hwj;exact hwj
   have d7:(x !=a)=true:=by simpa[bne]using hxa
   have d8:decide (x=a)=false:=by simpa using hxa
   clear hcell hx hk hk' hll hi hN hpj hij
   go_upto_region 7 with (at_builtin;refine append_run rfl _ _ rfl 0 rs _ x w HF.out.size HR.out HLE.out HF.out _ rfl rfl rfl ?_;intro g2 c2 w2 ho2 hb2;have HO2:=hid ho2;have HB2:=hid hb2;obtain ⟨y0,y1⟩:=(HADD.out g2 c2 w2 HO2).out;clear ho2 hb2)
   obtain ⟨r,hr⟩:∃r,r=rs.length:=⟨_,rfl⟩
   have hrl:=HLE.out
   rw[←hr]at y0 y1 hrl HO2 ⊢
   have HRL:=hid hr
   have hwr:wrap64 ((r:Int)+1-1)=(r:Int):=by unfold wrap64;omega
   have hrb:(r:Int)<9223372036854775806:=by omega
   have HGB:=hid (HO2.out.lt g2 rfl).1
   clear hr hrl
   go_wp2
   have HO3:=hid (HO2.out.stored (r*2) (I J 1)).1
   have HB3:=hid (HB2.out.setCell (p:=⟨g2,r*2,none⟩) HGB.out (I J 1))
   go_roundw
   case rel =>
    refine ⟨i+1,some ⟨g2,0,none⟩,r+1,c2,hlt,by go_num,rfl,?_,HB3⟩
    have h1:=HO3.out
    have h2:=rcs_set rs 0 1 x
    rw[←HRL.out]at h2
    rw[HN.out,QA,←HRL.out]
    rw[←h2]
    exact h1
   case measure=>simp[intOf];omega
  have HN:=hid hN
  have z1:=(HF.out.cell (p:=⟨k,o+j,none⟩) hk').trans (hcell j x hpj)
  have hwj:wrap64 ((i:Int)-1)=(j:Int):=by unfold wrap64;omega
  have d0:((i:Int)==0)=false:=by simp;omega
  have d2:j<n:=by omega
  have d3:(0:Int)<(i:Int):=by omega
  have d4:0<i:=by omega
  have d5:¬(n:Int)≤(j:Int):=by omega
  have d6:(j:Int)<(n:Int):=by omega
  have hwk:IntKind.i64.wrap ((i:Int)-1)=(j:Int):=by rw[IntKind.wrap_i64];unfold wrap64 at hwj;exact hwj
  clear hcell hx hk hk' hll hi hN hpj hij
  go_upto_region 7 with fail
  obtain ⟨r,hr⟩:∃r,r=pre.length:=⟨_,rfl⟩
  have hlen:(pre++[(m,x)]).length=r+1:=by rw[hr];simp
  have hrl:=HLE.out
  rw[hlen]at hrl HR ⊢
  have hmx:m≤n:=HCN.out (m,x) (by simp)
  obtain ⟨g2,e2⟩:∃g2,p1=some ⟨g2,0,none⟩:=by
   rcases HR.out.2 with ⟨h2,h3⟩|⟨g,cap,cur,h1,_⟩
   ·omega
   injection h1 with e _ _
   exact ⟨g,e⟩
  subst e2
  have HRL:=hid hr
  have y0:wr.cell? ⟨g2,r*2,none⟩=some (I J m):=by
   rw[HR.out.cellAt _ (by omega)]
   exact (rcs_at _ r (m,x) (by rw[hr];simp)).1
  have y1:=HR.out.frozenAt (r*2)
  have hwr:wrap64 ((r:Int)+1-1)=(r:Int):=by unfold wrap64;omega
  have hwm:wrap64 ((m:Int)+1)=(m:Int)+1:=by unfold wrap64;omega
  have hrb:(r:Int)<9223372036854775806:=by omega
  have HGB:=hid (HR.out.lt g2 rfl).1
  clear hr hrl hlen hmx
  go_wp2
  have HO3:=hid (HR.out.stored (r*2) (I J ((m:Int)+1))).1
  have HB3:=hid (HF.out.setCell (p:=⟨g2,r*2,none⟩) HGB.out (I J ((m:Int)+1)))
  go_roundw
  case rel =>
   refine ⟨i+1,some ⟨g2,0,none⟩,r+1,c1,hlt,by go_num,rfl,?_,HB3⟩
   have h1:=HO3.out
   have h2:=rcs_set pre m (m+1) x
   rw[←HRL.out]at h2
   rw[HN.out,QA,←HRL.out]
   rw[←h2]
   exact h1
  case measure=>simp[intOf];omega
 obtain rfl:i=n:=by omega
 have HE:=hid (show l.take i=l by rw[HNL.out,List.take_length])
 rw[HE.out]at HR
 go_wp2
 go_ret
 exact ⟨_,rfl,HR.out,HF.out⟩
theorem rbL_flB:∀(l:List (Nat × Int)) (P:Nat→List UInt8),(∀i r,l[i]?=some r→P i=runB r)→flB l.length P=rbL l:=by
 intro l
 have key:∀(n:Nat) (l:List (Nat × Int)),l.length=n→∀(P:Nat→List UInt8),(∀i r,l[i]?=some r→P i=runB r)→flB l.length P=rbL l:=by
  intro n
  induction n with
  |zero =>
   intro l hl P h
   obtain rfl:=List.eq_nil_of_length_eq_zero hl
   rfl
  |succ n ih =>
   intro l hl P h
   rcases List.eq_nil_or_concat l with rfl|⟨m,r,rfl⟩
   ·simp at hl
   have hm:m.length=n:=by simpa using hl
   have e1:=ih m hm P (fun i r' hi=>h i r' (by rw[List.concat_eq_append,List.getElem?_append_left (List.getElem?_eq_some_iff.1 hi).1];exact hi))
   have e2:=h m.length r (by simp)
   have e3:∀a b,rbL (a++b)=rbL a++rbL b:=by
    intro a b
    induction a with
    |nil=>rfl
    |cons x a iha=>simp only[List.cons_append,rbL,iha,QS]
   rw[List.concat_eq_append,QA,List.length_singleton,flB,e1,e2,e3]
   simp[rbL]
 exact fun P h=>key l.length l rfl P h
theorem mc_run (B g b:Nat) (bs:List UInt8) (n t:Int) (w:World) (hbg:b≠g) (hb:CA b #[Qp (some ⟨g,0,none⟩)] 135 w) (hw:WR B g bs w) (hn:bs.length≤4000000000000) :
  Calls QP 197 #[.agg #[I J n,I J t],Qp (some ⟨b,0,none⟩)] w fun e w'=>e=Qr (.tuple #[])∧WR B g (bs++(uI n++[byI t])) w'∧FR B g w w':=by
 have HX0:=hid (CA.new w #[I J n,I J t] 199)
 have HB0:=hid (hb.alloc (Qc #[I J n,I J t] 199))
 have HF0:=hid ((FR.refl B g w).alloc (Qc #[I J n,I J t] 199))
 have HW0:=hid (hw.alloc (Qc #[I J n,I J t] 199))
 have HNE:=hid (show w.heap.size≠g by have:=hw.lt;omega)
 have HBG:=hid hbg
 have HUL:=uI_len n
 have HN0:=hid (show bs.length+10≤140737488355000 by omega)
 have HN1:=hid (show (bs++uI n).length+([t]:List Int).length≤140737488355000 by simp only[QA,QC,QN];omega)
 clear hb hw hn hbg HUL
 go_enter Tryz.func197,Tryz.ntmps197
 go_upto_region 1 with fail
 generalize w.alloc (Qc #[I J n,I J t] 199)=w0 at *
 generalize w.heap.size=gx at *
 have y0:=HB0.out.at (k:=0) (v:=Qp (some ⟨g,0,none⟩)) rfl
 have x0:=HX0.out.at (k:=0) (v:=I J n) rfl
 have x1:=HX0.out.at (k:=1) (v:=I J t) rfl
 go_wp2_with (first
  |(go_at_call 105;(with_reducible refine (u_says B g _ n _ HW0.out.base HW0.out HN0.out).mono ?_);rintro e w1 ⟨rfl,hw',hf⟩;have HW1:=hid hw';have HF1:=hid (HF0.out.trans hf);have HX1:=hid (HX0.out.fr hf (by decide) HNE.out);have HB1:=hid (HB0.out.fr hf (by decide) HBG.out);clear y0 x0 x1;have y0:=HB1.out.at (k:=0) (v:=Qp (some ⟨g,0,none⟩)) rfl;have x0:=HX1.out.at (k:=0) (v:=I J n) rfl;have x1:=HX1.out.at (k:=1) (v:=I J t) rfl;clear hw' hf)
  |(go_at_call 169;(with_reducible refine (bytes_says B g _ [t] _ _ (HW1.out.alloc _) (LT.one t 1 HW1.out.lt) HN1.out).mono ?_);rintro e w2 ⟨rfl,hw',hf⟩;have HW2:=hid hw';have HF2:=hid ((HF1.out.alloc _).trans hf);clear hw' hf))
 (first|go_end0|refine bodyPost_ret (results_none rfl _ _ _) rfl ?_)
 refine ⟨rfl,?_,HF2.out⟩
 have:=HW2.out
 simpa using this
theorem wl_codes (B g k:Nat) (eg:∀args w,(callFunc k args).run QP w=.ok (.enter k args) w) (b:Nat) (P:Nat→List UInt8) (n blk off c:Nat) (ad:Option Addr) (p0:Nat→Option Addr) (n0 c0:Nat→Nat) (w:World) (hn62:n<9223372036854775807)
  (had:n≠0→ad=some ⟨blk,off,none⟩∧NW B g w blk) (hx:∀i,i<n→w.cell? ⟨blk,off+i,none⟩=some (V (p0 i) (n0 i) (c0 i)))
  (hP:∀i,i<n→∀bs W,FR B g w W→WR B g bs W→bs.length≤4000000000000→Calls QP k #[V (p0 i) (n0 i) (c0 i),Qp (some ⟨b,0,none⟩)] W fun e w'=>e=Qr (.tuple #[])∧WR B g (bs++P i) w'∧FR B g W w')
  (bs:List UInt8) (hw:WR B g bs w) (hlen:bs.length+10+(flB n P).length≤4000000000000) :
  Calls QP 191 #[Qp (some ⟨g,0,none⟩),V ad n c,.func (.func k) #[] #[Qp (some ⟨b,0,none⟩)]] w fun e w'=>e=Qr (.tuple #[])∧WR B g (bs++(uI n++flB n P)) w'∧FR B g w w':=by
 have HAD:=hid had
 have HX:=hid hx
 have HP:=hid hP
 have HW:=hid hw
 have HLN:=hid hlen
 have HUL:=hid (uI_len n)
 have nn62:(n:Int)<9223372036854775807:=by omega
 have HN1:=hid (show bs.length+10≤140737488355000 by omega)
 clear had hx hP hw hlen hn62
 go_enter Tryz.func191,Tryz.ntmps191
 go_upto_region 1 with (go_at_call 105;(with_reducible refine (u_says B g bs n _ HW.out.base HW.out HN1.out).mono ?_);rintro e w1 ⟨rfl,hw1,hf1⟩;have HW1:=hid hw1;have HF1:=hid hf1;clear hw1 hf1)
 go_wp2
 go_loopw [14] (fun vi wr=>∃i:Nat,i≤n∧vi=I J i∧Hid (WR B g (bs++(uI n++flB i P)) wr)∧Hid (FR B g w wr)) (fun vi _=>n-(intOf vi).toNat)
 case atStart=>exact ⟨0,Qz _,rfl,by simpa[flB]using HW1,HF1⟩
 obtain ⟨i,hi,rfl,HR,HF⟩:=hrel
 by_cases hlt:i<n
 ·have z0:=HX.out i hlt
  obtain ⟨hpe,hnw⟩:=HAD.out (by omega)
  subst hpe
  have x0:=(QW (a:=⟨blk,off+i,none⟩) (HF.out.block blk hnw)).trans z0
  have HLE:=hid (show (bs++(uI n++flB i P)).length≤4000000000000 by
   have h1:=HLN.out
   have h2:=flB_le P (Qo hlt)
   have h3:=HUL.out
   simp only[QA]
   omega)
  have HNX:=hid (show bs++(uI n++flB (i+1) P)=(bs++(uI n++flB i P))++P i by rw[flB];simp only[QS])
  have HKX:=hid (HP.out i hlt _ wr HF.out HR.out HLE.out)
  generalize P i=Pi at *
  generalize p0 i=q0 at *
  generalize n0 i=m0 at *
  generalize c0 i=d0 at *
  clear z0 hnw hi
  go_wp2_with (go_at_fn k;(with_reducible refine (HKX).out.mono ?_);rintro e w2 ⟨rfl,hw2,hf2⟩;have HW2:=hid hw2;have HF2:=hid (HF.out.trans hf2);clear hw2 hf2)
  go_roundw
  case rel =>
   refine ⟨i+1,hlt,by go_num,?_,HF2⟩
   rw[HNX.out]
   exact HW2
  case measure=>simp[intOf];omega
 obtain rfl:i=n:=by omega
 go_wp2
 (first|go_end0|refine bodyPost_ret (results_none rfl _ _ _) rfl ?_)
 exact ⟨rfl,HR.out,HF.out⟩
theorem wl_runs (B g k:Nat) (eg:∀args w,(callFunc k args).run QP w=.ok (.enter k args) w) (b:Nat) (P:Nat→List UInt8) (n blk off c:Nat) (ad:Option Addr) (t0 t1:Nat→Int) (w:World) (hn62:n<9223372036854775807)
  (had:n≠0→ad=some ⟨blk,off,none⟩∧NW B g w blk) (hx:∀i,i<n→w.cell? ⟨blk,off+i*2,none⟩=some (I J (t0 i))∧w.cell? ⟨blk,off+i*2+1,none⟩=some (I J (t1 i)))
  (hP:∀i,i<n→∀bs W,FR B g w W→WR B g bs W→bs.length≤4000000000000→Calls QP k #[.agg #[I J (t0 i),I J (t1 i)],Qp (some ⟨b,0,none⟩)] W fun e w'=>e=Qr (.tuple #[])∧WR B g (bs++P i) w'∧FR B g W w')
  (bs:List UInt8) (hw:WR B g bs w) (hlen:bs.length+10+(flB n P).length≤4000000000000) :
  Calls QP 195 #[Qp (some ⟨g,0,none⟩),V ad n c,.func (.func k) #[] #[Qp (some ⟨b,0,none⟩)]] w fun e w'=>e=Qr (.tuple #[])∧WR B g (bs++(uI n++flB n P)) w'∧FR B g w w':=by
 have HAD:=hid had
 have HX:=hid hx
 have HP:=hid hP
 have HW:=hid hw
 have HLN:=hid hlen
 have HUL:=hid (uI_len n)
 have nn62:(n:Int)<9223372036854775807:=by omega
 have HN1:=hid (show bs.length+10≤140737488355000 by omega)
 clear had hx hP hw hlen hn62
 go_enter Tryz.func195,Tryz.ntmps195
 go_upto_region 1 with (go_at_call 105;(with_reducible refine (u_says B g bs n _ HW.out.base HW.out HN1.out).mono ?_);rintro e w1 ⟨rfl,hw1,hf1⟩;have HW1:=hid hw1;have HF1:=hid hf1;clear hw1 hf1)
 go_wp2
 go_loopw [14] (fun vi wr=>∃i:Nat,i≤n∧vi=I J i∧Hid (WR B g (bs++(uI n++flB i P)) wr)∧Hid (FR B g w wr)) (fun vi _=>n-(intOf vi).toNat)
 case atStart=>exact ⟨0,Qz _,rfl,by simpa[flB]using HW1,HF1⟩
 obtain ⟨i,hi,rfl,HR,HF⟩:=hrel
 by_cases hlt:i<n
 ·obtain ⟨z0,z1⟩:=HX.out i hlt
  obtain ⟨hpe,hnw⟩:=HAD.out (by omega)
  subst hpe
  have x0:=(QW (a:=⟨blk,off+i*2,none⟩) (HF.out.block blk hnw)).trans z0
  have x1:=(QW (a:=⟨blk,off+i*2+1,none⟩) (HF.out.block blk hnw)).trans z1
  have HLE:=hid (show (bs++(uI n++flB i P)).length≤4000000000000 by
   have h1:=HLN.out
   have h2:=flB_le P (Qo hlt)
   have h3:=HUL.out
   simp only[QA]
   omega)
  have HNX:=hid (show bs++(uI n++flB (i+1) P)=(bs++(uI n++flB i P))++P i by rw[flB];simp only[QS])
  have HKX:=fun (o:Obj)=>hid (HP.out i hlt _ (wr.alloc o) (HF.out.alloc o) (HR.out.alloc o) HLE.out)
  generalize P i=Pi at *
  generalize t0 i=s0 at *
  generalize t1 i=s1 at *
  clear z0 z1 hnw hi
  go_wp2_with (go_at_fn k;(with_reducible refine (HKX _).out.mono ?_);rintro e w2 ⟨rfl,hw2,hf2⟩;have HW2:=hid hw2;have HF2:=hid ((HF.out.alloc _).trans hf2);clear hw2 hf2)
  go_roundw
  case rel =>
   refine ⟨i+1,hlt,by go_num,?_,HF2⟩
   rw[HNX.out]
   exact HW2
  case measure=>simp[intOf];omega
 obtain rfl:i=n:=by omega
 go_wp2
 (first|go_end0|refine bodyPost_ret (results_none rfl _ _ _) rfl ?_)
 exact ⟨rfl,HR.out,HF.out⟩
theorem wl_bytes (B g k:Nat) (eg:∀args w,(callFunc k args).run QP w=.ok (.enter k args) w) (b:Nat) (P:Nat→List UInt8) (n blk off c:Nat) (ad:Option Addr) (t0:Nat→Int) (w:World) (hn62:n<9223372036854775807)
  (had:n≠0→ad=some ⟨blk,off,none⟩∧NW B g w blk) (hx:∀i,i<n→w.cell? ⟨blk,off+i,none⟩=some (.int .u8 (t0 i)))
  (hP:∀i,i<n→∀bs W,FR B g w W→WR B g bs W→bs.length≤4000000000000→Calls QP k #[.int .u8 (t0 i),Qp (some ⟨b,0,none⟩)] W fun e w'=>e=Qr (.tuple #[])∧WR B g (bs++P i) w'∧FR B g W w')
  (bs:List UInt8) (hw:WR B g bs w) (hlen:bs.length+10+(flB n P).length≤4000000000000) :
  Calls QP 200 #[Qp (some ⟨g,0,none⟩),V ad n c,.func (.func k) #[] #[Qp (some ⟨b,0,none⟩)]] w fun e w'=>e=Qr (.tuple #[])∧WR B g (bs++(uI n++flB n P)) w'∧FR B g w w':=by
 have HAD:=hid had
 have HX:=hid hx
 have HP:=hid hP
 have HW:=hid hw
 have HLN:=hid hlen
 have HUL:=hid (uI_len n)
 have nn62:(n:Int)<9223372036854775807:=by omega
 have HN1:=hid (show bs.length+10≤140737488355000 by omega)
 clear had hx hP hw hlen hn62
 go_enter Tryz.func200,Tryz.ntmps200
 go_upto_region 1 with (go_at_call 105;(with_reducible refine (u_says B g bs n _ HW.out.base HW.out HN1.out).mono ?_);rintro e w1 ⟨rfl,hw1,hf1⟩;have HW1:=hid hw1;have HF1:=hid hf1;clear hw1 hf1)
 go_wp2
 go_loopw [14] (fun vi wr=>∃i:Nat,i≤n∧vi=I J i∧Hid (WR B g (bs++(uI n++flB i P)) wr)∧Hid (FR B g w wr)) (fun vi _=>n-(intOf vi).toNat)
 case atStart=>exact ⟨0,Qz _,rfl,by simpa[flB]using HW1,HF1⟩
 obtain ⟨i,hi,rfl,HR,HF⟩:=hrel
 by_cases hlt:i<n
 ·have z0:=HX.out i hlt
  obtain ⟨hpe,hnw⟩:=HAD.out (by omega)
  subst hpe
  have x0:=(QW (a:=⟨blk,off+i,none⟩) (HF.out.block blk hnw)).trans z0
  have HLE:=hid (show (bs++(uI n++flB i P)).length≤4000000000000 by
   have h1:=HLN.out
   have h2:=flB_le P (Qo hlt)
   have h3:=HUL.out
   simp only[QA]
   omega)
  have HNX:=hid (show bs++(uI n++flB (i+1) P)=(bs++(uI n++flB i P))++P i by rw[flB];simp only[QS])
  have HKX:=hid (HP.out i hlt _ wr HF.out HR.out HLE.out)
  generalize P i=Pi at *
  generalize t0 i=s0 at *
  clear z0 hnw hi
  go_wp2_with (go_at_fn k;(with_reducible refine (HKX).out.mono ?_);rintro e w2 ⟨rfl,hw2,hf2⟩;have HW2:=hid hw2;have HF2:=hid (HF.out.trans hf2);clear hw2 hf2)
  go_roundw
  case rel =>
   refine ⟨i+1,hlt,by go_num,?_,HF2⟩
   rw[HNX.out]
   exact HW2
  case measure=>simp[intOf];omega
 obtain rfl:i=n:=by omega
 go_wp2
 (first|go_end0|refine bodyPost_ret (results_none rfl _ _ _) rfl ?_)
 exact ⟨rfl,HR.out,HF.out⟩
theorem rbL_len:∀l,(rbL l).length≤11*l.length
 | []=>Ql _
 |r::l=>by
  have:=rbL_len l
  have:=uI_len r.1
  simp only[rbL,runB,QA,QC,QN]
  omega
theorem row_slice {w:World} {base n s:Nat} {e:TypeId} {v:Value} {xs:List Value} (h:w.ownsRow base e s v n xs):∃p q c,v=V p q c:=by
 rcases h.2 with ⟨h2,_⟩|⟨g,cap,cur,h1,_⟩
 ·exact ⟨_,_,_,h2⟩
 exact ⟨_,_,_,h1⟩
theorem list_runs (B g b:Nat) (l:List Int) (hl:l.length≤60000) (p:Option Addr) (q c:Nat) (base:Nat) (w:World) (hbg:b≠g) (hb:CA b #[Qp (some ⟨g,0,none⟩)] 135 w)
  (ho:w.ownsRow base 199 2 (V p q c) (runsL l).length (rcs (runsL l))) (bs:List UInt8) (hw:WR B g bs w) (hn:bs.length≤1000000000) :
  Calls QP 195 #[Qp (some ⟨g,0,none⟩),V p q c,.func (.func 197) #[] #[Qp (some ⟨b,0,none⟩)]] w fun e w'=>e=Qr (.tuple #[])∧WR B g (bs++locL l) w'∧FR B g w w':=by
 have hlen:=runs_le l
 have hrl:=rbL_len (runsL l)
 obtain ⟨rs,hrs⟩:∃rs,rs=runsL l:=⟨_,rfl⟩
 have hloc:locL l=uI rs.length++rbL rs:=by rw[hrs];rfl
 rw[hloc]
 rw[←hrs]at ho hlen hrl
 clear hrs hloc
 have hq:q=rs.length:=by
  rcases ho.2 with ⟨h2,h3⟩|⟨g,cap,cur,h1,_⟩
  ·injection h2 with _ e _
   omega
  injection h1
 subst hq
 have hfl:=rbL_flB rs (fun i=>uI ((rs[i]?.getD (0,0)).1:Nat)++[byI (rs[i]?.getD (0,0)).2]) (fun i r hi=>by simp only[hi,Option.getD_some];rfl)
 rw[←hfl]
 rw[←hfl]at hrl
 rcases ho.2 with ⟨h2,h3⟩|⟨gr,cap,cur,h1,h2,h3,h4,h5,h6,h7⟩
 ·obtain rfl:=List.eq_nil_of_length_eq_zero h3
  injection h2 with e1 _ e2
  subst e1
  subst e2
  exact wl_runs B g 197 (fun _ _=>rfl) b _ 0 0 0 0 none (fun _=>0) (fun _=>0) w (by decide) (fun h=>absurd rfl h) (fun i hi=>absurd hi (by omega)) (fun i hi=>absurd hi (Nat.not_lt_zero i)) bs hw (by simp[flB];omega)
 injection h1 with e1 _ e2
 subst e1
 subst e2
 obtain ⟨_,u,hcu,_⟩:=id hw
 have hng:gr≠g:=by
  intro e
  subst e
  unfold CA at hcu
  rw[hcu]at h3
  injection h3 with h3
  injection h3 with _ h3 _
  cases h3
 refine wl_runs B g 197 (fun _ _=>rfl) b _ rs.length gr 0 _ _ (fun i=>((rs[i]?.getD (0,0)).1:Nat)) (fun i=>(rs[i]?.getD (0,0)).2) w (by omega) (fun _=>⟨rfl,hng,(Array.getElem?_eq_some_iff.1 h3).1,.inr (.inl ⟨cur,199,_,h3,by decide⟩)⟩) (fun i hi=>?_) (fun i hi bs' W hF hW hbl=>?_) bs hw ?_
 ·obtain ⟨r,hr⟩:∃r,rs[i]?=some r:=⟨rs[i],List.getElem?_eq_getElem hi⟩
  have ha:=rcs_at rs i r hr
  have hc:∀j,j<rs.length*2→w.cell? ⟨gr,j,none⟩=(rcs rs)[j]?:=fun j hj=>ho.cellAt j hj
  simp only[hr,Option.getD_some,Nat.zero_add]
  exact ⟨(hc _ (by omega)).trans ha.1,(hc _ (by omega)).trans ha.2⟩
 ·exact mc_run B g b bs' _ _ W hbg (hb.fr hF (by decide) hbg) hW hbl
 omega
theorem func_in (B g bw bc L:Nat) (ty:Int) (l:List Int) (f:Fo) (pl pf:Option Addr) (cl cf:Nat) (w:World) (hL:L≤lo B g) (hl:l.length≤60000) (hLI:LI L w (V pl l.length cl) l)
  (hct:f.cnt<9223372036854775806) (hok:okE f) (hsz:f.siz≤61200000) (hs:SA L w (V pf f.len cf) f) (hbw:CA bw #[Qp (some ⟨g,0,none⟩)] 135 w) (hbc:CA bc #[I J ty,V pl l.length cl,V pf f.len cf] 42 w) (hnw:bw≠g) (hnc:bc≠g) (hw:WR B g [] w) :
  Calls QP 194 #[Qp (some ⟨bw,0,none⟩),Qp (some ⟨bc,0,none⟩)] w fun e w'=>e=Qr (.tuple #[])∧WR B g (locL l++codL f) w'∧FR B g w w':=by
 have hB:=hw.1
 have hLw:L≤w.heap.size:=Qk hL (Qk (lo_B B g) hB)
 have HRS:=fun (W:World) (h:FR B g w W)=>hid (runs_says l (V pl l.length cl) L W (Qk hLw h.size) (hLI.below ((h.belowL hB).mono hL)) (by omega))
 have HLS:=fun (W:World) (h:FR B g w W) (hW:Hid (WR B g [] W)) (p2:Option Addr) (q2 c2:Nat) {base:Nat} (ho:Hid (W.ownsRow base 199 2 (V p2 q2 c2) (runsL l).length (rcs (runsL l))))=>hid (list_runs B g bw l hl p2 q2 c2 base W hnw (hbw.fr h (by decide) hnw) ho.out [] hW.out (by simp))
 have HCO:=hid (fun (W:World) (h:FR B g w W) (hW:WR B g (locL l) W)=>code_says B g f hct hok (V pf f.len cf) (locL l) W hW (SA.mono (SA.below hs ((h.belowL hB).mono hL)) hL) (by
  have h1:=runs_le l
  have h2:=rbL_len (runsL l)
  have h3:=uI_len (runsL l).length
  unfold locL
  simp only[QA]
  omega))
 have HW0:=hid hw
 have HBW:=hid hbw
 have HBC:=hid hbc
 have HNW:=hid hnw
 have HNC:=hid hnc
 clear hLI hs hbw hbc hw hct hok hsz hB hLw hL hl
 generalize f.len=m at *
 generalize l.length=n at *
 unfold codL
 generalize f.enc++[11]=EC at *
 simp only[List.nil_append]at HLS
 go_enter Tryz.func194,Tryz.ntmps194
 go_upto_region 0 with fail
 have hS:FR B g w w.drew:=(FR.refl B g w).drew
 have HWC:Hid (WR B g [] w.drew):=HW0
 clear HW0
 refine wp_region_held_drew (S:=fun W=>FR B g w W) (by kernel_rfl) hS (fun _=>?_)
 generalize w.drew=W at *
 refine zt 0 (Qp (some ⟨g,0,none⟩)) rfl ?_ ?_
 ·(intro W hSw;have y0:=(HBW.out.fr hSw (by decide) HNW.out).at (k:=0) (v:=Qp (some ⟨g,0,none⟩)) rfl;have x1:=(HBC.out.fr hSw (by decide) HNC.out).at (k:=1) (v:=V pl n cl) rfl;go_simp;try (with_reducible rfl))
 try simp only[Qu,sl2,sl0,sl1]
 refine zt 1 (Qp (some ⟨bc,1,none⟩)) rfl ?_ ?_
 ·(intro W hSw;have y0:=(HBW.out.fr hSw (by decide) HNW.out).at (k:=0) (v:=Qp (some ⟨g,0,none⟩)) rfl;have x1:=(HBC.out.fr hSw (by decide) HNC.out).at (k:=1) (v:=V pl n cl) rfl;go_simp;try (with_reducible rfl))
 try simp only[Qu,sl2,sl0,sl1]
 refine zt 2 (V pl n cl) rfl ?_ ?_
 ·(intro W hSw;have y0:=(HBW.out.fr hSw (by decide) HNW.out).at (k:=0) (v:=Qp (some ⟨g,0,none⟩)) rfl;have x1:=(HBC.out.fr hSw (by decide) HNC.out).at (k:=1) (v:=V pl n cl) rfl;go_simp;try (with_reducible rfl))
 try simp only[Qu,sl2,sl0,sl1]
 refine zt 4 (.func (.func 197) #[] #[Qp (some ⟨bw,0,none⟩)]) rfl ?_ ?_
 ·(intro W hSw;have y0:=(HBW.out.fr hSw (by decide) HNW.out).at (k:=0) (v:=Qp (some ⟨g,0,none⟩)) rfl;have x1:=(HBC.out.fr hSw (by decide) HNC.out).at (k:=1) (v:=V pl n cl) rfl;go_simp;try (with_reducible rfl))
 try simp only[Qu,sl2,sl0,sl1]
 refine zr 3 rfl (fun K hK=>?_)
 go_simp
 go_at_call 196
 (with_reducible refine (HRS W hS).out.mono ?_)
 rintro e W1 ⟨v2,rfl,ho2,hb⟩
 replace hS:=hS.trans (FR.of hb)
 replace HWC:=hid (HWC.out.call hb)
 obtain ⟨p2,q2,c2,rfl⟩:=row_slice ho2
 have HO2:=hid ho2
 clear hb ho2
 refine hK.out _ _ hS (fun _=>?_)
 clear hK K
 try simp only[Qu,sl2,sl0,sl1]
 refine zr 5 rfl (fun K hK=>?_)
 go_simp
 go_at_call 195
 (with_reducible refine (HLS W1 hS HWC p2 q2 c2 HO2).out.mono ?_)
 rintro e W2 ⟨rfl,hw',hf⟩
 have HW5:=hid hw'
 replace hS:=hS.trans hf
 clear hw' hf HWC
 refine hK.out _ _ hS (fun _=>?_)
 clear hK K
 try simp only[Qu,sl2,sl0,sl1]
 refine wpAnyH_done (by kernel_rfl) ?_ _
 have HF5:=hid hS
 clear hS
 generalize W2=w5 at *
 have y0:=(HBW.out.fr HF5.out (by decide) HNW.out).at (k:=0) (v:=Qp (some ⟨g,0,none⟩)) rfl
 have x2:=(HBC.out.fr HF5.out (by decide) HNC.out).at (k:=2) (v:=V pf m cf) rfl
 have HCD:=hid (HCO.out w5 HF5.out HW5.out)
 go_wp2_with (go_at_call 136;(with_reducible refine HCD.out.mono ?_);rintro e w6 ⟨rfl,hw',hf⟩;have HW6:=hid hw';have HF6:=hid (HF5.out.trans hf);clear hw' hf)
 (first|go_end0|refine bodyPost_ret (results_none rfl _ _ _) rfl ?_)
 exact ⟨rfl,HW6.out,HF6.out⟩
end Go.Proofs.YtjgeedgphcjhoaaGreat
