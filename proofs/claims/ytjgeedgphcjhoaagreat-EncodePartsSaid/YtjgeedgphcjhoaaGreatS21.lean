/-
  RBlk, ROneE: merged, what the law does not reach left out (each text says what it holds where it lies in wip). No condition.
-/
import Derived.Test.YtjgeedgphcjhoaaGreatS19
import Derived.Deep.RegionHeld3
import Derived.Deep.DeepCutAuto
import Derived.Test.YtjgeedgphcjhoaaGreatS20
import Derived.Test.YtjgeedgphcjhoaaGreatS05
import Derived.Test.YtjgeedgphcjhoaaGreatS15
import Derived.IntWalk
import Derived.Test.YtjgeedgphcjhoaaGreatS01
set_option linter.unusedSimpArgs false
set_option linter.unusedVariables false
set_option maxRecDepth 100000
set_option maxHeartbeats 64000000
namespace Go.Proofs.YtjgeedgphcjhoaaGreat
open Go.RowKit
open Value renaming int → I,slice → V,bool → G,string → Qs,pointer → Qp
open IntKind renaming i64 → J,u64 → O
open Ending renaming returned → Qr
open Obj renaming cells → Qc
open _root_.Go.Proofs.Tryz renaming prog → QP
open Nat renaming le_refl → Ql,le_trans → Qk
open List renaming length_append → QA,length_cons → QC,length_nil → QN,append_assoc → QS
open Below renaming refl → QB
open Act renaming put → Qu
open Lib renaming byteCells → QY
theorem rblk_0f (op b:Int) (n h:Nat) (pl pb pe:Option Addr) (nl cl nb cb ne ce:Nat) (w:World) (hb:i64C b) (eb ee:List UInt8) (hn:eb.length+ee.length+100≤140737488355000)
  (h1:∀W,Below w.heap.size w W→Calls QP 139 #[V pb nb cb] W (BO W eb)) (h2:∀W,Below w.heap.size w W→Calls QP 139 #[V pe ne ce] W (BO W ee)) :
  Calls QP 232 #[.agg #[I J op,I J 0,I J b,I O n,I O h,V pl nl cl,V pb nb cb,V pe ne ce,G false],I J 1] w (BO w ([64]++eb++[11])):=by
 have HB1:=fun W hW=>hid (h1 W hW)
 have HB2:=fun W hW=>hid (h2 W hW)
 have HX0:=hid (CA.new w #[I J op,I J 0,I J b,I O n,I O h,V pl nl cl,V pb nb cb,V pe ne ce,G false] 39)
 have HRX:=hid ((RF.refl w.heap.size w).alloc (Qc #[I J op,I J 0,I J b,I O n,I O h,V pl nl cl,V pb nb cb,V pe ne ce,G false] 39))
 obtain ⟨y0,y1,y2,y3,y4,y5,y6,y7,y8⟩:=ca9 HX0.out
 have HSZ:Hid (w.heap.size≤w.heap.size):=Ql _
 have HSB:=hid (show -9223372036854775808≤b∧b≤9223372036854775807 from ⟨hb.1,by have:=hb.2;omega⟩)
 have q1:=slist_len b HSB.out
 have HNA:=hid (show ([64]).length+eb.length≤140737488355000 by first|omega|(simp only[QC,QN];omega))
 have HNZ:=hid (show ([64]++eb).length+([11]:List UInt8).length≤140737488355000 by simp only[QA,QC,QN];omega)
 clear h1 h2 hb hn q1
 go_enter Tryz.func232,Tryz.ntmps232
 go_upto_region 10 with fail
 clear y0 y1 y2 y3 y4 y5 y6 y7 y8
 have ht:=own_litc (w.alloc (Qc #[I J op,I J 0,I J b,I O n,I O h,V pl nl cl,V pb nb cb,V pe ne ce,G false] 39)) 64 64 rfl
 rw[size_al]at ht
 have HT:=hid (own_less ht (Nat.le_succ _))
 have HF:=hid (HRX.out.alloc (Qc #[.int .u8 64] 5))
 have HX:=hid (HX0.out.alloc (Qc #[.int .u8 64] 5))
 clear ht
 generalize ((w.alloc (Qc #[I J op,I J 0,I J b,I O n,I O h,V pl nl cl,V pb nb cb,V pe ne ce,G false] 39)).alloc (Qc #[.int .u8 64] 5))=w1 at *
 generalize hp0:(some (⟨w.heap.size+1,0,none⟩:Addr))=p0 at *
 clear hp0
 obtain ⟨y0,y1,y2,y3,y4,y5,y6,y7,y8⟩:=ca9 HX.out
 go_wp2_with (first
  |(go_at_call 139;(with_reducible refine (HB1 _ (HF.out.below (Ql _))).out.mono ?_);rintro e w2 ⟨v,rfl,ho,hb⟩;obtain ⟨p1,m1,c1,rfl⟩:=own_slice ho;have HO1:=hid ho;have HT1:=hid (own_kept HT.out hb);have HF1:=hid (HF.out.trans (RF.of hb));have HX1:=Qe HX hb;clear ho hb)
  |(at_builtin;refine append_rowW rfl _ _ rfl w.heap.size _ _ _ _ _ w2 HT1.out HO1.out HNA.out HF1.out.size (RF.refl _ _) rfl rfl ?_;intro p2 m2 c2 w3 ho3 hr;have HT2:=hid ho3;have HF2:=hid (HF1.out.trans hr);have HX2:=hid (HX1.out.rf hr (by decide));obtain ⟨x0,x1,x2,x3,x4,x5,x6,x7,x8⟩:=ca9 HX2.out;clear ho3 hr)
  |(at_builtin;refine append_rowW rfl _ _ rfl w.heap.size _ _ _ _ _ w (own_kept HT2.out ((QB _ _).alloc (Ql _) _)) (own_litc w3 11 11 rfl) HNZ.out (Ql _) (HF2.out.alloc _) rfl rfl ?_;intro p9 m9 c9 w9 ho3 hr;have HT9:=hid ho3;have HF9:=hid hr;clear ho3 hr))
 go_ret
 exact ⟨_,rfl,HT9.out,HF9.out.below (Ql _)⟩
theorem rblk_0t (op b:Int) (n h:Nat) (pl pb pe:Option Addr) (nl cl nb cb ne ce:Nat) (w:World) (hb:i64C b) (eb ee:List UInt8) (hn:eb.length+ee.length+100≤140737488355000)
  (h1:∀W,Below w.heap.size w W→Calls QP 139 #[V pb nb cb] W (BO W eb)) (h2:∀W,Below w.heap.size w W→Calls QP 139 #[V pe ne ce] W (BO W ee)) :
  Calls QP 232 #[.agg #[I J op,I J 0,I J b,I O n,I O h,V pl nl cl,V pb nb cb,V pe ne ce,G true],I J 1] w (BO w ([64]++eb++[5]++ee++[11])):=by
 have HB1:=fun W hW=>hid (h1 W hW)
 have HB2:=fun W hW=>hid (h2 W hW)
 have HX0:=hid (CA.new w #[I J op,I J 0,I J b,I O n,I O h,V pl nl cl,V pb nb cb,V pe ne ce,G true] 39)
 have HRX:=hid ((RF.refl w.heap.size w).alloc (Qc #[I J op,I J 0,I J b,I O n,I O h,V pl nl cl,V pb nb cb,V pe ne ce,G true] 39))
 obtain ⟨y0,y1,y2,y3,y4,y5,y6,y7,y8⟩:=ca9 HX0.out
 have HSZ:Hid (w.heap.size≤w.heap.size):=Ql _
 have HSB:=hid (show -9223372036854775808≤b∧b≤9223372036854775807 from ⟨hb.1,by have:=hb.2;omega⟩)
 have q1:=slist_len b HSB.out
 have HNA:=hid (show ([64]).length+eb.length≤140737488355000 by first|omega|(simp only[QC,QN];omega))
 have HNB:=hid (show ([64]++eb).length+([5]:List UInt8).length≤140737488355000 by simp only[QA,QC,QN];omega)
 have HNC:=hid (show ([64]++eb++[5]).length+ee.length≤140737488355000 by simp only[QA,QC,QN];omega)
 have HNZ:=hid (show ([64]++eb++[5]++ee).length+([11]:List UInt8).length≤140737488355000 by simp only[QA,QC,QN];omega)
 clear h1 h2 hb hn q1
 go_enter Tryz.func232,Tryz.ntmps232
 go_upto_region 10 with fail
 clear y0 y1 y2 y3 y4 y5 y6 y7 y8
 have ht:=own_litc (w.alloc (Qc #[I J op,I J 0,I J b,I O n,I O h,V pl nl cl,V pb nb cb,V pe ne ce,G true] 39)) 64 64 rfl
 rw[size_al]at ht
 have HT:=hid (own_less ht (Nat.le_succ _))
 have HF:=hid (HRX.out.alloc (Qc #[.int .u8 64] 5))
 have HX:=hid (HX0.out.alloc (Qc #[.int .u8 64] 5))
 clear ht
 generalize ((w.alloc (Qc #[I J op,I J 0,I J b,I O n,I O h,V pl nl cl,V pb nb cb,V pe ne ce,G true] 39)).alloc (Qc #[.int .u8 64] 5))=w1 at *
 generalize hp0:(some (⟨w.heap.size+1,0,none⟩:Addr))=p0 at *
 clear hp0
 obtain ⟨y0,y1,y2,y3,y4,y5,y6,y7,y8⟩:=ca9 HX.out
 go_upto_region 12 with (first
  |(go_at_call 139;(with_reducible refine (HB1 _ (HF.out.below (Ql _))).out.mono ?_);rintro e w2 ⟨v,rfl,ho,hb⟩;obtain ⟨p1,m1,c1,rfl⟩:=own_slice ho;have HO1:=hid ho;have HT1:=hid (own_kept HT.out hb);have HF1:=hid (HF.out.trans (RF.of hb));have HX1:=Qe HX hb;clear ho hb)
  |(at_builtin;refine append_rowW rfl _ _ rfl w.heap.size _ _ _ _ _ w2 HT1.out HO1.out HNA.out HF1.out.size (RF.refl _ _) rfl rfl ?_;intro p2 m2 c2 w3 ho3 hr;have HT2:=hid ho3;have HF2:=hid (HF1.out.trans hr);have HX2:=hid (HX1.out.rf hr (by decide));obtain ⟨x0,x1,x2,x3,x4,x5,x6,x7,x8⟩:=ca9 HX2.out;clear ho3 hr))
 clear y0 y1 y2 y3 y4 y5 y6 y7 y8 x0 x1 x2 x3 x4 x5 x6 x7 x8
 have hS:RF w.heap.size w w3.drew∧CA w.heap.size #[I J op,I J 0,I J b,I O n,I O h,V pl nl cl,V pb nb cb,V pe ne ce,G true] 39 w3.drew:=⟨HF2.out.drew,HX2.out⟩
 have HO2:Hid (w3.drew.ownsRow w.heap.size 5 1 (V p2 m2 c2) ([64]++eb).length (QY ([64]++eb))):=HT2
 clear HF2 HX2 HT2 HF1 HX1 HT1 HO1 HF HX HT HX0 HRX
 refine wp_region_held_drew (S:=fun W=>RF w.heap.size w W∧CA w.heap.size #[I J op,I J 0,I J b,I O n,I O h,V pl nl cl,V pb nb cb,V pe ne ce,G true] 39 W) (by kernel_rfl) hS (fun _=>?_)
 generalize w3.drew=W at *
 refine zt 0 (V p2 m2 c2) rfl ?_ ?_
 ·(intro W hSw;obtain ⟨x0,x1,x2,x3,x4,x5,x6,x7,x8⟩:=ca9 hSw.2;go_simp;try (with_reducible rfl))
 try simp only[Qu,sl2,sl0,sl1]
 refine zt 3 (Qp (some ⟨w.heap.size,7,none⟩)) rfl ?_ ?_
 ·(intro W hSw;obtain ⟨x0,x1,x2,x3,x4,x5,x6,x7,x8⟩:=ca9 hSw.2;go_simp;try (with_reducible rfl))
 try simp only[Qu,sl2,sl0,sl1]
 refine zt 4 (V pe ne ce) rfl ?_ ?_
 ·(intro W hSw;obtain ⟨x0,x1,x2,x3,x4,x5,x6,x7,x8⟩:=ca9 hSw.2;go_simp;try (with_reducible rfl))
 try simp only[Qu,sl2,sl0,sl1]
 refine zr 1 rfl (fun K hK=>?_)
 go_simp
 have HO5:=hid (own_less (own_litc W 5 5 rfl) (show w.heap.size≤W.heap.size from hS.1.size))
 replace HO2:=hid (own_kept HO2.out ((QB W.heap.size W).alloc (Ql _) (Qc #[.int .u8 5] 5)))
 replace hS:=And.intro (hS.1.alloc (Qc #[.int .u8 5] 5)) (hS.2.alloc (Qc #[.int .u8 5] 5))
 generalize W.alloc (Qc #[.int .u8 5] 5)=W1 at *
 generalize W.heap.size=n5 at *
 refine hK.out _ _ hS (fun _=>?_)
 clear hK K
 try simp only[Qu,sl2,sl0,sl1]
 refine zr 2 rfl (fun K hK=>?_)
 refine append_rowS rfl (.tmp 34) (.tmp 35) rfl w.heap.size _ _ _ _ _ w HO2.out HO5.out HNB.out (Ql _) hS.1 rfl rfl ?_
 intro p6 m6 c6 W2 ho3 hr
 replace hS:=And.intro (hS.1.trans hr) (hS.2.rf hr (by decide))
 have HO6:=hid ho3
 clear ho3 hr HO2 HO5
 refine hK.out _ _ hS (fun _=>?_)
 clear hK K
 try simp only[Qu,sl2,sl0,sl1]
 refine zr 5 rfl (fun K hK=>?_)
 go_simp
 go_at_call 139
 (with_reducible refine ((HB2 W2 (hS.1.below (Ql _))).out).mono ?_)
 rintro e W3 ⟨v,rfl,ho,hb⟩
 obtain ⟨p7,m7,c7,rfl⟩:=own_slice ho
 have HO7:=hid (own_less ho (Qk HSZ.out hS.1.size))
 replace HO6:=hid (own_kept HO6.out hb)
 replace hS:=And.intro (hS.1.trans (RF.of hb)) (hS.2.below hb hS.2.lt)
 clear ho hb
 refine hK.out _ _ hS (fun _=>?_)
 clear hK K
 try simp only[Qu,sl2,sl0,sl1]
 refine zr 6 rfl (fun K hK=>?_)
 refine append_rowS rfl (.tmp 36) (.tmp 39) rfl w.heap.size _ _ _ _ _ w HO6.out HO7.out HNC.out (Ql _) hS.1 rfl rfl ?_
 intro p8 m8 c8 W4 ho3 hr
 replace hS:=And.intro (hS.1.trans hr) (hS.2.rf hr (by decide))
 have HO8:=hid ho3
 clear ho3 hr HO6 HO7
 refine hK.out _ _ hS (fun _=>?_)
 clear hK K
 try simp only[Qu,sl2,sl0,sl1]
 refine zt 7 (V p8 m8 c8) rfl ?_ ?_
 ·(intro W hSw;obtain ⟨x0,x1,x2,x3,x4,x5,x6,x7,x8⟩:=ca9 hSw.2;go_simp;try (with_reducible rfl))
 try simp only[Qu,sl2,sl0,sl1]
 refine wpAnyH_done (by kernel_rfl) ?_ _
 have HF:=hid hS.1
 have HT:=HO8
 clear hS
 generalize hwz:W4=wz at *
 clear hwz
 go_wp2_with (at_builtin;refine append_rowW rfl _ _ rfl w.heap.size _ _ _ _ _ w (own_kept HT.out ((QB _ _).alloc (Ql _) _)) (own_litc wz 11 11 rfl) HNZ.out (Ql _) (HF.out.alloc _) rfl rfl ?_;intro p9 m9 c9 w9 ho3 hr;have HT9:=hid ho3;have HF9:=hid hr;clear ho3 hr)
 go_ret
 exact ⟨_,rfl,HT9.out,HF9.out.below (Ql _)⟩
theorem rblk_1f (op b:Int) (n h:Nat) (pl pb pe:Option Addr) (nl cl nb cb ne ce:Nat) (w:World) (hb:i64C b) (eb ee:List UInt8) (hn:eb.length+ee.length+100≤140737488355000)
  (h1:∀W,Below w.heap.size w W→Calls QP 139 #[V pb nb cb] W (BO W eb)) (h2:∀W,Below w.heap.size w W→Calls QP 139 #[V pe ne ce] W (BO W ee)) :
  Calls QP 232 #[.agg #[I J op,I J 1,I J b,I O n,I O h,V pl nl cl,V pb nb cb,V pe ne ce,G false],I J 1] w (BO w ([byI b]++eb++[11])):=by
 have HB1:=fun W hW=>hid (h1 W hW)
 have HB2:=fun W hW=>hid (h2 W hW)
 have HX0:=hid (CA.new w #[I J op,I J 1,I J b,I O n,I O h,V pl nl cl,V pb nb cb,V pe ne ce,G false] 39)
 have HRX:=hid ((RF.refl w.heap.size w).alloc (Qc #[I J op,I J 1,I J b,I O n,I O h,V pl nl cl,V pb nb cb,V pe ne ce,G false] 39))
 obtain ⟨y0,y1,y2,y3,y4,y5,y6,y7,y8⟩:=ca9 HX0.out
 have HSZ:Hid (w.heap.size≤w.heap.size):=Ql _
 have HSB:=hid (show -9223372036854775808≤b∧b≤9223372036854775807 from ⟨hb.1,by have:=hb.2;omega⟩)
 have q1:=slist_len b HSB.out
 have HNA:=hid (show ([byI b]).length+eb.length≤140737488355000 by first|omega|(simp only[QC,QN];omega))
 have HNZ:=hid (show ([byI b]++eb).length+([11]:List UInt8).length≤140737488355000 by simp only[QA,QC,QN];omega)
 clear h1 h2 hb hn q1
 go_enter Tryz.func232,Tryz.ntmps232
 go_upto_region 10 with fail
 clear y0 y1 y2 y3 y4 y5 y6 y7 y8
 have ht:=own_lit1 ((w.alloc (Qc #[I J op,I J 1,I J b,I O n,I O h,V pl nl cl,V pb nb cb,V pe ne ce,G false] 39)).alloc (Qc #[.int .u8 64] 5)) b
 rw[size_al,size_al]at ht
 have HT:=hid (own_less ht (by omega:w.heap.size≤w.heap.size+1+1))
 have HF:=hid ((HRX.out.alloc (Qc #[.int .u8 64] 5)).alloc (Qc #[.int .u8 (b%256)] 5))
 have HX:=hid ((HX0.out.alloc (Qc #[.int .u8 64] 5)).alloc (Qc #[.int .u8 (b%256)] 5))
 clear ht
 generalize (((w.alloc (Qc #[I J op,I J 1,I J b,I O n,I O h,V pl nl cl,V pb nb cb,V pe ne ce,G false] 39)).alloc (Qc #[.int .u8 64] 5)).alloc (Qc #[.int .u8 (b%256)] 5))=w1 at *
 generalize hp0:(some (⟨w.heap.size+1+1,0,none⟩:Addr))=p0 at *
 clear hp0
 obtain ⟨y0,y1,y2,y3,y4,y5,y6,y7,y8⟩:=ca9 HX.out
 go_wp2_with (first
  |(go_at_call 139;(with_reducible refine (HB1 _ (HF.out.below (Ql _))).out.mono ?_);rintro e w2 ⟨v,rfl,ho,hb⟩;obtain ⟨p1,m1,c1,rfl⟩:=own_slice ho;have HO1:=hid ho;have HT1:=hid (own_kept HT.out hb);have HF1:=hid (HF.out.trans (RF.of hb));have HX1:=Qe HX hb;clear ho hb)
  |(at_builtin;refine append_rowW rfl _ _ rfl w.heap.size _ _ _ _ _ w2 HT1.out HO1.out HNA.out HF1.out.size (RF.refl _ _) rfl rfl ?_;intro p2 m2 c2 w3 ho3 hr;have HT2:=hid ho3;have HF2:=hid (HF1.out.trans hr);have HX2:=hid (HX1.out.rf hr (by decide));obtain ⟨x0,x1,x2,x3,x4,x5,x6,x7,x8⟩:=ca9 HX2.out;clear ho3 hr)
  |(at_builtin;refine append_rowW rfl _ _ rfl w.heap.size _ _ _ _ _ w (own_kept HT2.out ((QB _ _).alloc (Ql _) _)) (own_litc w3 11 11 rfl) HNZ.out (Ql _) (HF2.out.alloc _) rfl rfl ?_;intro p9 m9 c9 w9 ho3 hr;have HT9:=hid ho3;have HF9:=hid hr;clear ho3 hr))
 go_ret
 exact ⟨_,rfl,HT9.out,HF9.out.below (Ql _)⟩
theorem rblk_1t (op b:Int) (n h:Nat) (pl pb pe:Option Addr) (nl cl nb cb ne ce:Nat) (w:World) (hb:i64C b) (eb ee:List UInt8) (hn:eb.length+ee.length+100≤140737488355000)
  (h1:∀W,Below w.heap.size w W→Calls QP 139 #[V pb nb cb] W (BO W eb)) (h2:∀W,Below w.heap.size w W→Calls QP 139 #[V pe ne ce] W (BO W ee)) :
  Calls QP 232 #[.agg #[I J op,I J 1,I J b,I O n,I O h,V pl nl cl,V pb nb cb,V pe ne ce,G true],I J 1] w (BO w ([byI b]++eb++[5]++ee++[11])):=by
 have HB1:=fun W hW=>hid (h1 W hW)
 have HB2:=fun W hW=>hid (h2 W hW)
 have HX0:=hid (CA.new w #[I J op,I J 1,I J b,I O n,I O h,V pl nl cl,V pb nb cb,V pe ne ce,G true] 39)
 have HRX:=hid ((RF.refl w.heap.size w).alloc (Qc #[I J op,I J 1,I J b,I O n,I O h,V pl nl cl,V pb nb cb,V pe ne ce,G true] 39))
 obtain ⟨y0,y1,y2,y3,y4,y5,y6,y7,y8⟩:=ca9 HX0.out
 have HSZ:Hid (w.heap.size≤w.heap.size):=Ql _
 have HSB:=hid (show -9223372036854775808≤b∧b≤9223372036854775807 from ⟨hb.1,by have:=hb.2;omega⟩)
 have q1:=slist_len b HSB.out
 have HNA:=hid (show ([byI b]).length+eb.length≤140737488355000 by first|omega|(simp only[QC,QN];omega))
 have HNB:=hid (show ([byI b]++eb).length+([5]:List UInt8).length≤140737488355000 by simp only[QA,QC,QN];omega)
 have HNC:=hid (show ([byI b]++eb++[5]).length+ee.length≤140737488355000 by simp only[QA,QC,QN];omega)
 have HNZ:=hid (show ([byI b]++eb++[5]++ee).length+([11]:List UInt8).length≤140737488355000 by simp only[QA,QC,QN];omega)
 clear h1 h2 hb hn q1
 go_enter Tryz.func232,Tryz.ntmps232
 go_upto_region 10 with fail
 clear y0 y1 y2 y3 y4 y5 y6 y7 y8
 have ht:=own_lit1 ((w.alloc (Qc #[I J op,I J 1,I J b,I O n,I O h,V pl nl cl,V pb nb cb,V pe ne ce,G true] 39)).alloc (Qc #[.int .u8 64] 5)) b
 rw[size_al,size_al]at ht
 have HT:=hid (own_less ht (by omega:w.heap.size≤w.heap.size+1+1))
 have HF:=hid ((HRX.out.alloc (Qc #[.int .u8 64] 5)).alloc (Qc #[.int .u8 (b%256)] 5))
 have HX:=hid ((HX0.out.alloc (Qc #[.int .u8 64] 5)).alloc (Qc #[.int .u8 (b%256)] 5))
 clear ht
 generalize (((w.alloc (Qc #[I J op,I J 1,I J b,I O n,I O h,V pl nl cl,V pb nb cb,V pe ne ce,G true] 39)).alloc (Qc #[.int .u8 64] 5)).alloc (Qc #[.int .u8 (b%256)] 5))=w1 at *
 generalize hp0:(some (⟨w.heap.size+1+1,0,none⟩:Addr))=p0 at *
 clear hp0
 obtain ⟨y0,y1,y2,y3,y4,y5,y6,y7,y8⟩:=ca9 HX.out
 go_upto_region 12 with (first
  |(go_at_call 139;(with_reducible refine (HB1 _ (HF.out.below (Ql _))).out.mono ?_);rintro e w2 ⟨v,rfl,ho,hb⟩;obtain ⟨p1,m1,c1,rfl⟩:=own_slice ho;have HO1:=hid ho;have HT1:=hid (own_kept HT.out hb);have HF1:=hid (HF.out.trans (RF.of hb));have HX1:=Qe HX hb;clear ho hb)
  |(at_builtin;refine append_rowW rfl _ _ rfl w.heap.size _ _ _ _ _ w2 HT1.out HO1.out HNA.out HF1.out.size (RF.refl _ _) rfl rfl ?_;intro p2 m2 c2 w3 ho3 hr;have HT2:=hid ho3;have HF2:=hid (HF1.out.trans hr);have HX2:=hid (HX1.out.rf hr (by decide));obtain ⟨x0,x1,x2,x3,x4,x5,x6,x7,x8⟩:=ca9 HX2.out;clear ho3 hr))
 clear y0 y1 y2 y3 y4 y5 y6 y7 y8 x0 x1 x2 x3 x4 x5 x6 x7 x8
 have hS:RF w.heap.size w w3.drew∧CA w.heap.size #[I J op,I J 1,I J b,I O n,I O h,V pl nl cl,V pb nb cb,V pe ne ce,G true] 39 w3.drew:=⟨HF2.out.drew,HX2.out⟩
 have HO2:Hid (w3.drew.ownsRow w.heap.size 5 1 (V p2 m2 c2) ([byI b]++eb).length (QY ([byI b]++eb))):=HT2
 clear HF2 HX2 HT2 HF1 HX1 HT1 HO1 HF HX HT HX0 HRX
 refine wp_region_held_drew (S:=fun W=>RF w.heap.size w W∧CA w.heap.size #[I J op,I J 1,I J b,I O n,I O h,V pl nl cl,V pb nb cb,V pe ne ce,G true] 39 W) (by kernel_rfl) hS (fun _=>?_)
 generalize w3.drew=W at *
 refine zt 0 (V p2 m2 c2) rfl ?_ ?_
 ·(intro W hSw;obtain ⟨x0,x1,x2,x3,x4,x5,x6,x7,x8⟩:=ca9 hSw.2;go_simp;try (with_reducible rfl))
 try simp only[Qu,sl2,sl0,sl1]
 refine zt 3 (Qp (some ⟨w.heap.size,7,none⟩)) rfl ?_ ?_
 ·(intro W hSw;obtain ⟨x0,x1,x2,x3,x4,x5,x6,x7,x8⟩:=ca9 hSw.2;go_simp;try (with_reducible rfl))
 try simp only[Qu,sl2,sl0,sl1]
 refine zt 4 (V pe ne ce) rfl ?_ ?_
 ·(intro W hSw;obtain ⟨x0,x1,x2,x3,x4,x5,x6,x7,x8⟩:=ca9 hSw.2;go_simp;try (with_reducible rfl))
 try simp only[Qu,sl2,sl0,sl1]
 refine zr 1 rfl (fun K hK=>?_)
 go_simp
 have HO5:=hid (own_less (own_litc W 5 5 rfl) (show w.heap.size≤W.heap.size from hS.1.size))
 replace HO2:=hid (own_kept HO2.out ((QB W.heap.size W).alloc (Ql _) (Qc #[.int .u8 5] 5)))
 replace hS:=And.intro (hS.1.alloc (Qc #[.int .u8 5] 5)) (hS.2.alloc (Qc #[.int .u8 5] 5))
 generalize W.alloc (Qc #[.int .u8 5] 5)=W1 at *
 generalize W.heap.size=n5 at *
 refine hK.out _ _ hS (fun _=>?_)
 clear hK K
 try simp only[Qu,sl2,sl0,sl1]
 refine zr 2 rfl (fun K hK=>?_)
 refine append_rowS rfl (.tmp 34) (.tmp 35) rfl w.heap.size _ _ _ _ _ w HO2.out HO5.out HNB.out (Ql _) hS.1 rfl rfl ?_
 intro p6 m6 c6 W2 ho3 hr
 replace hS:=And.intro (hS.1.trans hr) (hS.2.rf hr (by decide))
 have HO6:=hid ho3
 clear ho3 hr HO2 HO5
 refine hK.out _ _ hS (fun _=>?_)
 clear hK K
 try simp only[Qu,sl2,sl0,sl1]
 refine zr 5 rfl (fun K hK=>?_)
 go_simp
 go_at_call 139
 (with_reducible refine ((HB2 W2 (hS.1.below (Ql _))).out).mono ?_)
 rintro e W3 ⟨v,rfl,ho,hb⟩
 obtain ⟨p7,m7,c7,rfl⟩:=own_slice ho
 have HO7:=hid (own_less ho (Qk HSZ.out hS.1.size))
 replace HO6:=hid (own_kept HO6.out hb)
 replace hS:=And.intro (hS.1.trans (RF.of hb)) (hS.2.below hb hS.2.lt)
 clear ho hb
 refine hK.out _ _ hS (fun _=>?_)
 clear hK K
 try simp only[Qu,sl2,sl0,sl1]
 refine zr 6 rfl (fun K hK=>?_)
 refine append_rowS rfl (.tmp 36) (.tmp 39) rfl w.heap.size _ _ _ _ _ w HO6.out HO7.out HNC.out (Ql _) hS.1 rfl rfl ?_
 intro p8 m8 c8 W4 ho3 hr
 replace hS:=And.intro (hS.1.trans hr) (hS.2.rf hr (by decide))
 have HO8:=hid ho3
 clear ho3 hr HO6 HO7
 refine hK.out _ _ hS (fun _=>?_)
 clear hK K
 try simp only[Qu,sl2,sl0,sl1]
 refine zt 7 (V p8 m8 c8) rfl ?_ ?_
 ·(intro W hSw;obtain ⟨x0,x1,x2,x3,x4,x5,x6,x7,x8⟩:=ca9 hSw.2;go_simp;try (with_reducible rfl))
 try simp only[Qu,sl2,sl0,sl1]
 refine wpAnyH_done (by kernel_rfl) ?_ _
 have HF:=hid hS.1
 have HT:=HO8
 clear hS
 generalize hwz:W4=wz at *
 clear hwz
 go_wp2_with (at_builtin;refine append_rowW rfl _ _ rfl w.heap.size _ _ _ _ _ w (own_kept HT.out ((QB _ _).alloc (Ql _) _)) (own_litc wz 11 11 rfl) HNZ.out (Ql _) (HF.out.alloc _) rfl rfl ?_;intro p9 m9 c9 w9 ho3 hr;have HT9:=hid ho3;have HF9:=hid hr;clear ho3 hr)
 go_ret
 exact ⟨_,rfl,HT9.out,HF9.out.below (Ql _)⟩
theorem rblk_2f (op b:Int) (n h:Nat) (pl pb pe:Option Addr) (nl cl nb cb ne ce:Nat) (w:World) (hb:i64C b) (eb ee:List UInt8) (hn:eb.length+ee.length+100≤140737488355000)
  (h1:∀W,Below w.heap.size w W→Calls QP 139 #[V pb nb cb] W (BO W eb)) (h2:∀W,Below w.heap.size w W→Calls QP 139 #[V pe ne ce] W (BO W ee)) :
  Calls QP 232 #[.agg #[I J op,I J 2,I J b,I O n,I O h,V pl nl cl,V pb nb cb,V pe ne ce,G false],I J 1] w (BO w (slist b++eb++[11])):=by
 have HB1:=fun W hW=>hid (h1 W hW)
 have HB2:=fun W hW=>hid (h2 W hW)
 have HX0:=hid (CA.new w #[I J op,I J 2,I J b,I O n,I O h,V pl nl cl,V pb nb cb,V pe ne ce,G false] 39)
 have HRX:=hid ((RF.refl w.heap.size w).alloc (Qc #[I J op,I J 2,I J b,I O n,I O h,V pl nl cl,V pb nb cb,V pe ne ce,G false] 39))
 obtain ⟨y0,y1,y2,y3,y4,y5,y6,y7,y8⟩:=ca9 HX0.out
 have HSZ:Hid (w.heap.size≤w.heap.size):=Ql _
 have HSB:=hid (show -9223372036854775808≤b∧b≤9223372036854775807 from ⟨hb.1,by have:=hb.2;omega⟩)
 have q1:=slist_len b HSB.out
 have HNA:=hid (show (slist b).length+eb.length≤140737488355000 by first|omega|(simp only[QC,QN];omega))
 have HNZ:=hid (show (slist b++eb).length+([11]:List UInt8).length≤140737488355000 by simp only[QA,QC,QN];omega)
 clear h1 h2 hb hn q1
 go_enter Tryz.func232,Tryz.ntmps232
 have HRY:=hid (HRX.out.alloc (Qc #[.int .u8 64] 5))
 have HXY:=hid (HX0.out.alloc (Qc #[.int .u8 64] 5))
 obtain ⟨z0,z1,z2,z3,z4,z5,z6,z7,z8⟩:=ca9 HXY.out
 go_upto_region 10 with (go_at_call 246;(with_reducible refine (refS_any b HSB.out.1 HSB.out.2 _).mono ?_);rintro e w1 ⟨v,rfl,ho,hb⟩;obtain ⟨p0,m0,c0,rfl⟩:=own_slice ho;have HT:=hid (own_less ho HRY.out.size);have HF:=hid (HRY.out.trans (RF.of hb));have HX:=Qe HXY hb;clear ho hb)
 clear z0 z1 z2 z3 z4 z5 z6 z7 z8 y0 y1 y2 y3 y4 y5 y6 y7 y8
 obtain ⟨y0,y1,y2,y3,y4,y5,y6,y7,y8⟩:=ca9 HX.out
 go_wp2_with (first
  |(go_at_call 139;(with_reducible refine (HB1 _ (HF.out.below (Ql _))).out.mono ?_);rintro e w2 ⟨v,rfl,ho,hb⟩;obtain ⟨p1,m1,c1,rfl⟩:=own_slice ho;have HO1:=hid ho;have HT1:=hid (own_kept HT.out hb);have HF1:=hid (HF.out.trans (RF.of hb));have HX1:=Qe HX hb;clear ho hb)
  |(at_builtin;refine append_rowW rfl _ _ rfl w.heap.size _ _ _ _ _ w2 HT1.out HO1.out HNA.out HF1.out.size (RF.refl _ _) rfl rfl ?_;intro p2 m2 c2 w3 ho3 hr;have HT2:=hid ho3;have HF2:=hid (HF1.out.trans hr);have HX2:=hid (HX1.out.rf hr (by decide));obtain ⟨x0,x1,x2,x3,x4,x5,x6,x7,x8⟩:=ca9 HX2.out;clear ho3 hr)
  |(at_builtin;refine append_rowW rfl _ _ rfl w.heap.size _ _ _ _ _ w (own_kept HT2.out ((QB _ _).alloc (Ql _) _)) (own_litc w3 11 11 rfl) HNZ.out (Ql _) (HF2.out.alloc _) rfl rfl ?_;intro p9 m9 c9 w9 ho3 hr;have HT9:=hid ho3;have HF9:=hid hr;clear ho3 hr))
 go_ret
 exact ⟨_,rfl,HT9.out,HF9.out.below (Ql _)⟩
theorem rblk_2t (op b:Int) (n h:Nat) (pl pb pe:Option Addr) (nl cl nb cb ne ce:Nat) (w:World) (hb:i64C b) (eb ee:List UInt8) (hn:eb.length+ee.length+100≤140737488355000)
  (h1:∀W,Below w.heap.size w W→Calls QP 139 #[V pb nb cb] W (BO W eb)) (h2:∀W,Below w.heap.size w W→Calls QP 139 #[V pe ne ce] W (BO W ee)) :
  Calls QP 232 #[.agg #[I J op,I J 2,I J b,I O n,I O h,V pl nl cl,V pb nb cb,V pe ne ce,G true],I J 1] w (BO w (slist b++eb++[5]++ee++[11])):=by
 have HB1:=fun W hW=>hid (h1 W hW)
 have HB2:=fun W hW=>hid (h2 W hW)
 have HX0:=hid (CA.new w #[I J op,I J 2,I J b,I O n,I O h,V pl nl cl,V pb nb cb,V pe ne ce,G true] 39)
 have HRX:=hid ((RF.refl w.heap.size w).alloc (Qc #[I J op,I J 2,I J b,I O n,I O h,V pl nl cl,V pb nb cb,V pe ne ce,G true] 39))
 obtain ⟨y0,y1,y2,y3,y4,y5,y6,y7,y8⟩:=ca9 HX0.out
 have HSZ:Hid (w.heap.size≤w.heap.size):=Ql _
 have HSB:=hid (show -9223372036854775808≤b∧b≤9223372036854775807 from ⟨hb.1,by have:=hb.2;omega⟩)
 have q1:=slist_len b HSB.out
 have HNA:=hid (show (slist b).length+eb.length≤140737488355000 by first|omega|(simp only[QC,QN];omega))
 have HNB:=hid (show (slist b++eb).length+([5]:List UInt8).length≤140737488355000 by simp only[QA,QC,QN];omega)
 have HNC:=hid (show (slist b++eb++[5]).length+ee.length≤140737488355000 by simp only[QA,QC,QN];omega)
 have HNZ:=hid (show (slist b++eb++[5]++ee).length+([11]:List UInt8).length≤140737488355000 by simp only[QA,QC,QN];omega)
 clear h1 h2 hb hn q1
 go_enter Tryz.func232,Tryz.ntmps232
 have HRY:=hid (HRX.out.alloc (Qc #[.int .u8 64] 5))
 have HXY:=hid (HX0.out.alloc (Qc #[.int .u8 64] 5))
 obtain ⟨z0,z1,z2,z3,z4,z5,z6,z7,z8⟩:=ca9 HXY.out
 go_upto_region 10 with (go_at_call 246;(with_reducible refine (refS_any b HSB.out.1 HSB.out.2 _).mono ?_);rintro e w1 ⟨v,rfl,ho,hb⟩;obtain ⟨p0,m0,c0,rfl⟩:=own_slice ho;have HT:=hid (own_less ho HRY.out.size);have HF:=hid (HRY.out.trans (RF.of hb));have HX:=Qe HXY hb;clear ho hb)
 clear z0 z1 z2 z3 z4 z5 z6 z7 z8 y0 y1 y2 y3 y4 y5 y6 y7 y8
 obtain ⟨y0,y1,y2,y3,y4,y5,y6,y7,y8⟩:=ca9 HX.out
 go_upto_region 12 with (first
  |(go_at_call 139;(with_reducible refine (HB1 _ (HF.out.below (Ql _))).out.mono ?_);rintro e w2 ⟨v,rfl,ho,hb⟩;obtain ⟨p1,m1,c1,rfl⟩:=own_slice ho;have HO1:=hid ho;have HT1:=hid (own_kept HT.out hb);have HF1:=hid (HF.out.trans (RF.of hb));have HX1:=Qe HX hb;clear ho hb)
  |(at_builtin;refine append_rowW rfl _ _ rfl w.heap.size _ _ _ _ _ w2 HT1.out HO1.out HNA.out HF1.out.size (RF.refl _ _) rfl rfl ?_;intro p2 m2 c2 w3 ho3 hr;have HT2:=hid ho3;have HF2:=hid (HF1.out.trans hr);have HX2:=hid (HX1.out.rf hr (by decide));obtain ⟨x0,x1,x2,x3,x4,x5,x6,x7,x8⟩:=ca9 HX2.out;clear ho3 hr))
 clear y0 y1 y2 y3 y4 y5 y6 y7 y8 x0 x1 x2 x3 x4 x5 x6 x7 x8
 have hS:RF w.heap.size w w3.drew∧CA w.heap.size #[I J op,I J 2,I J b,I O n,I O h,V pl nl cl,V pb nb cb,V pe ne ce,G true] 39 w3.drew:=⟨HF2.out.drew,HX2.out⟩
 have HO2:Hid (w3.drew.ownsRow w.heap.size 5 1 (V p2 m2 c2) (slist b++eb).length (QY (slist b++eb))):=HT2
 clear HF2 HX2 HT2 HF1 HX1 HT1 HO1 HF HX HT HX0 HRX
 refine wp_region_held_drew (S:=fun W=>RF w.heap.size w W∧CA w.heap.size #[I J op,I J 2,I J b,I O n,I O h,V pl nl cl,V pb nb cb,V pe ne ce,G true] 39 W) (by kernel_rfl) hS (fun _=>?_)
 generalize w3.drew=W at *
 refine zt 0 (V p2 m2 c2) rfl ?_ ?_
 ·(intro W hSw;obtain ⟨x0,x1,x2,x3,x4,x5,x6,x7,x8⟩:=ca9 hSw.2;go_simp;try (with_reducible rfl))
 try simp only[Qu,sl2,sl0,sl1]
 refine zt 3 (Qp (some ⟨w.heap.size,7,none⟩)) rfl ?_ ?_
 ·(intro W hSw;obtain ⟨x0,x1,x2,x3,x4,x5,x6,x7,x8⟩:=ca9 hSw.2;go_simp;try (with_reducible rfl))
 try simp only[Qu,sl2,sl0,sl1]
 refine zt 4 (V pe ne ce) rfl ?_ ?_
 ·(intro W hSw;obtain ⟨x0,x1,x2,x3,x4,x5,x6,x7,x8⟩:=ca9 hSw.2;go_simp;try (with_reducible rfl))
 try simp only[Qu,sl2,sl0,sl1]
 refine zr 1 rfl (fun K hK=>?_)
 go_simp
 have HO5:=hid (own_less (own_litc W 5 5 rfl) (show w.heap.size≤W.heap.size from hS.1.size))
 replace HO2:=hid (own_kept HO2.out ((QB W.heap.size W).alloc (Ql _) (Qc #[.int .u8 5] 5)))
 replace hS:=And.intro (hS.1.alloc (Qc #[.int .u8 5] 5)) (hS.2.alloc (Qc #[.int .u8 5] 5))
 generalize W.alloc (Qc #[.int .u8 5] 5)=W1 at *
 generalize W.heap.size=n5 at *
 refine hK.out _ _ hS (fun _=>?_)
 clear hK K
 try simp only[Qu,sl2,sl0,sl1]
 refine zr 2 rfl (fun K hK=>?_)
 refine append_rowS rfl (.tmp 34) (.tmp 35) rfl w.heap.size _ _ _ _ _ w HO2.out HO5.out HNB.out (Ql _) hS.1 rfl rfl ?_
 intro p6 m6 c6 W2 ho3 hr
 replace hS:=And.intro (hS.1.trans hr) (hS.2.rf hr (by decide))
 have HO6:=hid ho3
 clear ho3 hr HO2 HO5
 refine hK.out _ _ hS (fun _=>?_)
 clear hK K
 try simp only[Qu,sl2,sl0,sl1]
 refine zr 5 rfl (fun K hK=>?_)
 go_simp
 go_at_call 139
 (with_reducible refine ((HB2 W2 (hS.1.below (Ql _))).out).mono ?_)
 rintro e W3 ⟨v,rfl,ho,hb⟩
 obtain ⟨p7,m7,c7,rfl⟩:=own_slice ho
 have HO7:=hid (own_less ho (Qk HSZ.out hS.1.size))
 replace HO6:=hid (own_kept HO6.out hb)
 replace hS:=And.intro (hS.1.trans (RF.of hb)) (hS.2.below hb hS.2.lt)
 clear ho hb
 refine hK.out _ _ hS (fun _=>?_)
 clear hK K
 try simp only[Qu,sl2,sl0,sl1]
 refine zr 6 rfl (fun K hK=>?_)
 refine append_rowS rfl (.tmp 36) (.tmp 39) rfl w.heap.size _ _ _ _ _ w HO6.out HO7.out HNC.out (Ql _) hS.1 rfl rfl ?_
 intro p8 m8 c8 W4 ho3 hr
 replace hS:=And.intro (hS.1.trans hr) (hS.2.rf hr (by decide))
 have HO8:=hid ho3
 clear ho3 hr HO6 HO7
 refine hK.out _ _ hS (fun _=>?_)
 clear hK K
 try simp only[Qu,sl2,sl0,sl1]
 refine zt 7 (V p8 m8 c8) rfl ?_ ?_
 ·(intro W hSw;obtain ⟨x0,x1,x2,x3,x4,x5,x6,x7,x8⟩:=ca9 hSw.2;go_simp;try (with_reducible rfl))
 try simp only[Qu,sl2,sl0,sl1]
 refine wpAnyH_done (by kernel_rfl) ?_ _
 have HF:=hid hS.1
 have HT:=HO8
 clear hS
 generalize hwz:W4=wz at *
 clear hwz
 go_wp2_with (at_builtin;refine append_rowW rfl _ _ rfl w.heap.size _ _ _ _ _ w (own_kept HT.out ((QB _ _).alloc (Ql _) _)) (own_litc wz 11 11 rfl) HNZ.out (Ql _) (HF.out.alloc _) rfl rfl ?_;intro p9 m9 c9 w9 ho3 hr;have HT9:=hid ho3;have HF9:=hid hr;clear ho3 hr)
 go_ret
 exact ⟨_,rfl,HT9.out,HF9.out.below (Ql _)⟩
theorem beh_1 (op a b:Int) (n h:Nat) (pl pb pe:Option Addr) (nl cl nb cb ne ce:Nat) (ot:Bool) (w:World) (ha:a=0∨a=1∨a=2) (hb:i64C b) (eb ee:List UInt8) (hn:eb.length+ee.length+100≤140737488355000)
  (h1:∀W,Below w.heap.size w W→Calls QP 139 #[V pb nb cb] W (BO W eb)) (h2:∀W,Below w.heap.size w W→Calls QP 139 #[V pe ne ce] W (BO W ee)) :
  Calls QP 232 #[.agg #[I J op,I J a,I J b,I O n,I O h,V pl nl cl,V pb nb cb,V pe ne ce,G ot],I J 1] w (BO w (blL a b++eb++(if ot=true then 5::ee else [])++[11])):=by
 have e0:blL 0 b=[64]:=rfl
 have e1:blL 1 b=[byI b]:=rfl
 have e2:blL 2 b=slist b:=rfl
 rcases ha with rfl|rfl|rfl
 all_goals cases ot
 ·have:=rblk_0f op b n h pl pb pe nl cl nb cb ne ce w hb eb ee hn h1 h2
  simpa[e0,QS]using this
 ·have:=rblk_0t op b n h pl pb pe nl cl nb cb ne ce w hb eb ee hn h1 h2
  simpa[e0,QS]using this
 ·have:=rblk_1f op b n h pl pb pe nl cl nb cb ne ce w hb eb ee hn h1 h2
  simpa[e1,QS]using this
 ·have:=rblk_1t op b n h pl pb pe nl cl nb cb ne ce w hb eb ee hn h1 h2
  simpa[e1,QS]using this
 ·have:=rblk_2f op b n h pl pb pe nl cl nb cb ne ce w hb eb ee hn h1 h2
  simpa[e2,QS]using this
 have:=rblk_2t op b n h pl pb pe nl cl nb cb ne ce w hb eb ee hn h1 h2
 simpa[e2,QS]using this
theorem Of_kind (op:Int) (w:World):Calls QP 153 #[I J op] w fun e w'=>(∃(o:Int) (nm tk lv:List UInt8) (fx:Bool),e=Qr (.agg #[I J o,Qs (str nm),I J (lineL op).2.1,Qs (str tk),Qs (str lv),G fx]))∧Below w.heap.size w w':=by
 obtain ⟨o,nm,im,tk,lv,fx,h⟩:∃o nm im tk lv fx,ofL op=(o,nm,im,tk,lv,fx):=⟨_,_,_,_,_,_,rfl⟩
 have h2:=(agree_two op h).2
 have:=Of_says op w
 rw[h]at this
 rw[h2]
 exact this.mono fun e w' ⟨he,hw⟩=>⟨⟨o,nm,tk,lv,fx,he⟩,hw⟩
theorem run_fld (o:Int) (s1:ByteArray) (k:Int) (s2 s3:ByteArray) (fx:Bool) (W:World):(Instr.field 172 (.agg #[I J o,Qs s1,I J k,Qs s2,Qs s3,G fx]) 2).run QP W=.ok (I J k) W:=by kernel_rfl
theorem rone_0 (op a b:Int) (n h:Nat) (pl pb pe:Option Addr) (nl cl nb cb ne ce:Nat) (ot:Bool) (w:World) (k:Int) (X:List UInt8) (hop:op<64512) (hX:X.length+100≤140737488355000)
  (hof:∀W,Calls QP 153 #[I J op] W fun e w'=>(∃(o:Int) (nm tk lv:List UInt8) (fx:Bool),e=Qr (.agg #[I J o,Qs (str nm),I J k,Qs (str tk),Qs (str lv),G fx]))∧Below W.heap.size W w')
  (hbe:∀W,Below w.heap.size w W→Calls QP 232 #[.agg #[I J op,I J a,I J b,I O n,I O h,V pl nl cl,V pb nb cb,V pe ne ce,G ot],I J k] W (BO W X)) :
  Calls QP 210 #[.agg #[I J op,I J a,I J b,I O n,I O h,V pl nl cl,V pb nb cb,V pe ne ce,G ot]] w (BO w ([]++[byI op]++X)):=by
 have hfl:=run_fld
 have HOF:=fun W=>hid (hof W)
 have HBE:=fun W hW=>hid (hbe W hW)
 have HX0:=hid (CA.new w #[I J op,I J a,I J b,I O n,I O h,V pl nl cl,V pb nb cb,V pe ne ce,G ot] 39)
 have HRX:=hid ((RF.refl w.heap.size w).alloc (Qc #[I J op,I J a,I J b,I O n,I O h,V pl nl cl,V pb nb cb,V pe ne ce,G ot] 39))
 obtain ⟨y0,y1,y2,y3,y4,y5,y6,y7,y8⟩:=ca9 HX0.out
 have HSZ:Hid (w.heap.size≤w.heap.size):=Ql _
 have d0:decide (op<64512)=true:=by simpa using hop
 have HN0:=hid (show ([]:List UInt8).length+[byI op].length≤140737488355000 by simp)
 have HN1:=hid (show ([]++[byI op]).length+X.length≤140737488355000 by simp;omega)
 have HOP:=hid hop
 clear hof hbe hop hX
 go_enter Tryz.func210,Tryz.ntmps210
 go_upto_region 7 with (at_builtin;refine append_rowW rfl _ _ rfl w.heap.size _ _ _ _ _ ((w.alloc (Qc #[I J op,I J a,I J b,I O n,I O h,V pl nl cl,V pb nb cb,V pe ne ce,G ot] 39)).alloc (Qc #[.int .u8 (op%256)] 5)) (own_nil _ _) (own_lit1 _ op) HN0.out (by simp only[size_al];omega) (RF.refl _ _) rfl (by simp only[size_al];rfl) ?_;intro p3 m3 c3 w3 ho3 hr;have HT:=hid ho3;have HF:=hid ((HRX.out.alloc _).trans hr);have HX1:=hid ((HX0.out.alloc _).rf hr (by decide));clear ho3 hr)
 clear y0 y1 y2 y3 y4 y5 y6 y7 y8 HX0 HRX
 have hS:RF w.heap.size w w3.drew∧CA w.heap.size #[I J op,I J a,I J b,I O n,I O h,V pl nl cl,V pb nb cb,V pe ne ce,G ot] 39 w3.drew:=⟨HF.out.drew,HX1.out⟩
 have HO0:Hid (w3.drew.ownsRow w.heap.size 5 1 (V p3 m3 c3) ([]++[byI op]).length (QY ([]++[byI op]))):=HT
 clear HF HT HX1
 refine wp_region_held_drew (S:=fun W=>RF w.heap.size w W∧CA w.heap.size #[I J op,I J a,I J b,I O n,I O h,V pl nl cl,V pb nb cb,V pe ne ce,G ot] 39 W) (by kernel_rfl) hS (fun _=>?_)
 generalize w3.drew=W at *
 refine zt 0 (V p3 m3 c3) rfl ?_ ?_
 ·(intro W hSw;obtain ⟨x0,x1,x2,x3,x4,x5,x6,x7,x8⟩:=ca9 hSw.2;go_simp;try (with_reducible rfl))
 try simp only[Qu,sl2,sl0,sl1]
 refine zt 1 (.agg #[I J op,I J a,I J b,I O n,I O h,V pl nl cl,V pb nb cb,V pe ne ce,G ot]) rfl ?_ ?_
 ·(intro W hSw;obtain ⟨x0,x1,x2,x3,x4,x5,x6,x7,x8⟩:=ca9 hSw.2;go_simp;try (with_reducible rfl))
 try simp only[Qu,sl2,sl0,sl1]
 refine zt 2 (Qp (some ⟨w.heap.size,0,none⟩)) rfl ?_ ?_
 ·(intro W hSw;obtain ⟨x0,x1,x2,x3,x4,x5,x6,x7,x8⟩:=ca9 hSw.2;go_simp;try (with_reducible rfl))
 try simp only[Qu,sl2,sl0,sl1]
 refine zt 3 (I J op) rfl ?_ ?_
 ·(intro W hSw;obtain ⟨x0,x1,x2,x3,x4,x5,x6,x7,x8⟩:=ca9 hSw.2;go_simp;try (with_reducible rfl))
 try simp only[Qu,sl2,sl0,sl1]
 refine zr 4 rfl (fun K hK=>?_)
 go_simp
 go_at_call 153
 (with_reducible refine (HOF W).out.mono ?_)
 rintro e W1 ⟨⟨o,nm,tk,lv,fx,rfl⟩,hb⟩
 replace HO0:=hid (own_kept HO0.out hb)
 replace hS:=And.intro (hS.1.trans (RF.of hb)) (hS.2.below hb hS.2.lt)
 clear hb
 refine hK.out _ _ hS (fun _=>?_)
 clear hK K
 try simp only[Qu,sl2,sl0,sl1]
 refine zt 5 (I J k) rfl ?_ ?_
 ·(intro W hSw;obtain ⟨x0,x1,x2,x3,x4,x5,x6,x7,x8⟩:=ca9 hSw.2;go_simp;try (with_reducible rfl))
 try simp only[Qu,sl2,sl0,sl1]
 refine zr 6 rfl (fun K hK=>?_)
 go_simp
 go_at_call 232
 (with_reducible refine ((HBE W1 (hS.1.below (Ql _))).out).mono ?_)
 rintro e W2 ⟨v,rfl,ho,hb⟩
 obtain ⟨p8,m8,c8,rfl⟩:=own_slice ho
 have HO8:=hid (own_less ho (Qk HSZ.out hS.1.size))
 replace HO0:=hid (own_kept HO0.out hb)
 replace hS:=And.intro (hS.1.trans (RF.of hb)) (hS.2.below hb hS.2.lt)
 clear ho hb
 refine hK.out _ _ hS (fun _=>?_)
 clear hK K
 try simp only[Qu,sl2,sl0,sl1]
 refine zr 7 rfl (fun K hK=>?_)
 refine append_rowS rfl (.tmp 32) (.tmp 38) rfl w.heap.size _ _ _ _ _ w HO0.out HO8.out HN1.out (Ql _) hS.1 rfl rfl ?_
 intro p9 m9 c9 W3 ho3 hr
 replace hS:=And.intro (hS.1.trans hr) (hS.2.rf hr (by decide))
 have HO9:=hid ho3
 clear ho3 hr HO0 HO8
 refine hK.out _ _ hS (fun _=>?_)
 clear hK K
 try simp only[Qu,sl2,sl0,sl1]
 refine zt 8 (V p9 m9 c9) rfl ?_ ?_
 ·(intro W hSw;obtain ⟨x0,x1,x2,x3,x4,x5,x6,x7,x8⟩:=ca9 hSw.2;go_simp;try (with_reducible rfl))
 try simp only[Qu,sl2,sl0,sl1]
 refine wpAnyH_done (by kernel_rfl) ?_ _
 have HF:=hid hS.1
 clear hS
 go_wp2
 go_ret
 exact ⟨_,rfl,HO9.out,HF.out.below (Ql _)⟩
theorem rone_1 (op a b:Int) (n h:Nat) (pl pb pe:Option Addr) (nl cl nb cb ne ce:Nat) (ot:Bool) (w:World) (k:Int) (X:List UInt8) (hop:64512≤op∧op<64768) (hX:X.length+100≤140737488355000)
  (hof:∀W,Calls QP 153 #[I J op] W fun e w'=>(∃(o:Int) (nm tk lv:List UInt8) (fx:Bool),e=Qr (.agg #[I J o,Qs (str nm),I J k,Qs (str tk),Qs (str lv),G fx]))∧Below W.heap.size W w')
  (hbe:∀W,Below w.heap.size w W→Calls QP 232 #[.agg #[I J op,I J a,I J b,I O n,I O h,V pl nl cl,V pb nb cb,V pe ne ce,G ot],I J k] W (BO W X)) :
  Calls QP 210 #[.agg #[I J op,I J a,I J b,I O n,I O h,V pl nl cl,V pb nb cb,V pe ne ce,G ot]] w (BO w ([]++[252]++uI (op-64512)++X)):=by
 have hfl:=run_fld
 have HOF:=fun W=>hid (hof W)
 have HBE:=fun W hW=>hid (hbe W hW)
 have HX0:=hid (CA.new w #[I J op,I J a,I J b,I O n,I O h,V pl nl cl,V pb nb cb,V pe ne ce,G ot] 39)
 have HRX:=hid ((RF.refl w.heap.size w).alloc (Qc #[I J op,I J a,I J b,I O n,I O h,V pl nl cl,V pb nb cb,V pe ne ce,G ot] 39))
 obtain ⟨y0,y1,y2,y3,y4,y5,y6,y7,y8⟩:=ca9 HX0.out
 have HSZ:Hid (w.heap.size≤w.heap.size):=Ql _
 have d0:decide (op<64512)=false:=by simp;omega
 have d1:decide (op<64768)=true:=by simp;omega
 have hw1:IntKind.i64.wrap (op-64512)=op-64512:=IntWalk.i64_in _ (by omega)
 have q1:=uI_len (op-64512)
 have HN0:=hid (show ([]:List UInt8).length+[(252:UInt8)].length≤140737488355000 by simp)
 have HN2:=hid (show ([]++[(252:UInt8)]).length+(uI (op-64512)).length≤140737488355000 by simp;omega)
 have HN1:=hid (show ([]++[(252:UInt8)]++uI (op-64512)).length+X.length≤140737488355000 by simp;omega)
 have HOP:=hid hop
 clear hof hbe hop hX q1
 go_enter Tryz.func210,Tryz.ntmps210
 go_upto_region 5 with fail
 clear y0 y1 y2 y3 y4 y5 y6 y7 y8
 have hS:RF w.heap.size w (w.alloc (Qc #[I J op,I J a,I J b,I O n,I O h,V pl nl cl,V pb nb cb,V pe ne ce,G ot] 39)).drew∧CA w.heap.size #[I J op,I J a,I J b,I O n,I O h,V pl nl cl,V pb nb cb,V pe ne ce,G ot] 39 (w.alloc (Qc #[I J op,I J a,I J b,I O n,I O h,V pl nl cl,V pb nb cb,V pe ne ce,G ot] 39)).drew:=⟨HRX.out.drew,HX0.out⟩
 have HO0:=hid (own_nil (w.alloc (Qc #[I J op,I J a,I J b,I O n,I O h,V pl nl cl,V pb nb cb,V pe ne ce,G ot] 39)).drew w.heap.size)
 refine wp_region_held_drew (S:=fun W=>RF w.heap.size w W∧CA w.heap.size #[I J op,I J a,I J b,I O n,I O h,V pl nl cl,V pb nb cb,V pe ne ce,G ot] 39 W) (by kernel_rfl) hS (fun _=>?_)
 generalize (w.alloc (Qc #[I J op,I J a,I J b,I O n,I O h,V pl nl cl,V pb nb cb,V pe ne ce,G ot] 39)).drew=W at *
 refine zt 0 (V none 0 0) rfl ?_ ?_
 ·(intro W hSw;obtain ⟨x0,x1,x2,x3,x4,x5,x6,x7,x8⟩:=ca9 hSw.2;go_simp;try (with_reducible rfl))
 try simp only[Qu,sl2,sl0,sl1]
 refine zt 3 (Qp (some ⟨w.heap.size,0,none⟩)) rfl ?_ ?_
 ·(intro W hSw;obtain ⟨x0,x1,x2,x3,x4,x5,x6,x7,x8⟩:=ca9 hSw.2;go_simp;try (with_reducible rfl))
 try simp only[Qu,sl2,sl0,sl1]
 refine zt 4 (I J op) rfl ?_ ?_
 ·(intro W hSw;obtain ⟨x0,x1,x2,x3,x4,x5,x6,x7,x8⟩:=ca9 hSw.2;go_simp;try (with_reducible rfl))
 try simp only[Qu,sl2,sl0,sl1]
 refine zt 5 (I J (op-64512)) rfl ?_ ?_
 ·(intro W hSw;obtain ⟨x0,x1,x2,x3,x4,x5,x6,x7,x8⟩:=ca9 hSw.2;go_simp;try (with_reducible rfl))
 try simp only[Qu,sl2,sl0,sl1]
 refine zr 1 rfl (fun K hK=>?_)
 go_simp
 have HO1:=hid (own_less (own_litc W 252 252 rfl) (show w.heap.size≤W.heap.size from hS.1.size))
 replace HO0:=hid (own_kept HO0.out ((QB W.heap.size W).alloc (Ql _) (Qc #[.int .u8 252] 5)))
 replace hS:=And.intro (hS.1.alloc (Qc #[.int .u8 252] 5)) (hS.2.alloc (Qc #[.int .u8 252] 5))
 generalize W.alloc (Qc #[.int .u8 252] 5)=W1 at *
 generalize W.heap.size=n1 at *
 refine hK.out _ _ hS (fun _=>?_)
 clear hK K
 try simp only[Qu,sl2,sl0,sl1]
 refine zr 2 rfl (fun K hK=>?_)
 refine append_rowS rfl (.tmp 16) (.tmp 17) rfl w.heap.size _ _ _ _ _ w HO0.out HO1.out HN0.out (Ql _) hS.1 rfl rfl ?_
 intro p2 m2 c2 W2 ho3 hr
 replace hS:=And.intro (hS.1.trans hr) (hS.2.rf hr (by decide))
 have HO2:=hid ho3
 clear ho3 hr HO0 HO1
 refine hK.out _ _ hS (fun _=>?_)
 clear hK K
 try simp only[Qu,sl2,sl0,sl1]
 refine zr 6 rfl (fun K hK=>?_)
 go_simp
 go_at_call 133
 (with_reducible refine (RU_says (op-64512) W2).mono ?_)
 rintro e W3 ⟨v,rfl,ho,hb⟩
 obtain ⟨p4,m4,c4,rfl⟩:=own_slice ho
 have HO4:=hid (own_less ho (Qk HSZ.out hS.1.size))
 replace HO2:=hid (own_kept HO2.out hb)
 replace hS:=And.intro (hS.1.trans (RF.of hb)) (hS.2.below hb hS.2.lt)
 clear ho hb
 refine hK.out _ _ hS (fun _=>?_)
 clear hK K
 try simp only[Qu,sl2,sl0,sl1]
 refine zr 7 rfl (fun K hK=>?_)
 refine append_rowS rfl (.tmp 18) (.tmp 22) rfl w.heap.size _ _ _ _ _ w HO2.out HO4.out HN2.out (Ql _) hS.1 rfl rfl ?_
 intro p3 m3 c3 W4 ho3 hr
 replace hS:=And.intro (hS.1.trans hr) (hS.2.rf hr (by decide))
 have HO3:=hid ho3
 clear ho3 hr HO2 HO4
 refine hK.out _ _ hS (fun _=>?_)
 clear hK K
 try simp only[Qu,sl2,sl0,sl1]
 refine zt 8 (V p3 m3 c3) rfl ?_ ?_
 ·(intro W hSw;obtain ⟨x0,x1,x2,x3,x4,x5,x6,x7,x8⟩:=ca9 hSw.2;go_simp;try (with_reducible rfl))
 try simp only[Qu,sl2,sl0,sl1]
 refine wpAnyH_done (by kernel_rfl) ?_ _
 have HF:=hid hS.1
 have HT:=HO3
 have HX1:=hid hS.2
 clear hS HX0 HRX
 generalize W4=w3 at *
 go_upto_region 7 with fail
 have hS:RF w.heap.size w w3.drew∧CA w.heap.size #[I J op,I J a,I J b,I O n,I O h,V pl nl cl,V pb nb cb,V pe ne ce,G ot] 39 w3.drew:=⟨HF.out.drew,HX1.out⟩
 have HO0:Hid (w3.drew.ownsRow w.heap.size 5 1 (V p3 m3 c3) ([]++[252]++uI (op-64512)).length (QY ([]++[252]++uI (op-64512)))):=HT
 clear HF HT HX1
 refine wp_region_held_drew (S:=fun W=>RF w.heap.size w W∧CA w.heap.size #[I J op,I J a,I J b,I O n,I O h,V pl nl cl,V pb nb cb,V pe ne ce,G ot] 39 W) (by kernel_rfl) hS (fun _=>?_)
 generalize w3.drew=W at *
 refine zt 0 (V p3 m3 c3) rfl ?_ ?_
 ·(intro W hSw;obtain ⟨x0,x1,x2,x3,x4,x5,x6,x7,x8⟩:=ca9 hSw.2;go_simp;try (with_reducible rfl))
 try simp only[Qu,sl2,sl0,sl1]
 refine zt 1 (.agg #[I J op,I J a,I J b,I O n,I O h,V pl nl cl,V pb nb cb,V pe ne ce,G ot]) rfl ?_ ?_
 ·(intro W hSw;obtain ⟨x0,x1,x2,x3,x4,x5,x6,x7,x8⟩:=ca9 hSw.2;go_simp;try (with_reducible rfl))
 try simp only[Qu,sl2,sl0,sl1]
 refine zt 2 (Qp (some ⟨w.heap.size,0,none⟩)) rfl ?_ ?_
 ·(intro W hSw;obtain ⟨x0,x1,x2,x3,x4,x5,x6,x7,x8⟩:=ca9 hSw.2;go_simp;try (with_reducible rfl))
 try simp only[Qu,sl2,sl0,sl1]
 refine zt 3 (I J op) rfl ?_ ?_
 ·(intro W hSw;obtain ⟨x0,x1,x2,x3,x4,x5,x6,x7,x8⟩:=ca9 hSw.2;go_simp;try (with_reducible rfl))
 try simp only[Qu,sl2,sl0,sl1]
 refine zr 4 rfl (fun K hK=>?_)
 go_simp
 go_at_call 153
 (with_reducible refine (HOF W).out.mono ?_)
 rintro e W1 ⟨⟨o,nm,tk,lv,fx,rfl⟩,hb⟩
 replace HO0:=hid (own_kept HO0.out hb)
 replace hS:=And.intro (hS.1.trans (RF.of hb)) (hS.2.below hb hS.2.lt)
 clear hb
 refine hK.out _ _ hS (fun _=>?_)
 clear hK K
 try simp only[Qu,sl2,sl0,sl1]
 refine zt 5 (I J k) rfl ?_ ?_
 ·(intro W hSw;obtain ⟨x0,x1,x2,x3,x4,x5,x6,x7,x8⟩:=ca9 hSw.2;go_simp;try (with_reducible rfl))
 try simp only[Qu,sl2,sl0,sl1]
 refine zr 6 rfl (fun K hK=>?_)
 go_simp
 go_at_call 232
 (with_reducible refine ((HBE W1 (hS.1.below (Ql _))).out).mono ?_)
 rintro e W2 ⟨v,rfl,ho,hb⟩
 obtain ⟨p8,m8,c8,rfl⟩:=own_slice ho
 have HO8:=hid (own_less ho (Qk HSZ.out hS.1.size))
 replace HO0:=hid (own_kept HO0.out hb)
 replace hS:=And.intro (hS.1.trans (RF.of hb)) (hS.2.below hb hS.2.lt)
 clear ho hb
 refine hK.out _ _ hS (fun _=>?_)
 clear hK K
 try simp only[Qu,sl2,sl0,sl1]
 refine zr 7 rfl (fun K hK=>?_)
 refine append_rowS rfl (.tmp 32) (.tmp 38) rfl w.heap.size _ _ _ _ _ w HO0.out HO8.out HN1.out (Ql _) hS.1 rfl rfl ?_
 intro p9 m9 c9 W3 ho3 hr
 replace hS:=And.intro (hS.1.trans hr) (hS.2.rf hr (by decide))
 have HO9:=hid ho3
 clear ho3 hr HO0 HO8
 refine hK.out _ _ hS (fun _=>?_)
 clear hK K
 try simp only[Qu,sl2,sl0,sl1]
 refine zt 8 (V p9 m9 c9) rfl ?_ ?_
 ·(intro W hSw;obtain ⟨x0,x1,x2,x3,x4,x5,x6,x7,x8⟩:=ca9 hSw.2;go_simp;try (with_reducible rfl))
 try simp only[Qu,sl2,sl0,sl1]
 refine wpAnyH_done (by kernel_rfl) ?_ _
 have HF:=hid hS.1
 clear hS
 go_wp2
 go_ret
 exact ⟨_,rfl,HO9.out,HF.out.below (Ql _)⟩
theorem rone_2 (op a b:Int) (n h:Nat) (pl pb pe:Option Addr) (nl cl nb cb ne ce:Nat) (ot:Bool) (w:World) (k:Int) (X:List UInt8) (hop:64768≤op∧op<65024) (hX:X.length+100≤140737488355000)
  (hof:∀W,Calls QP 153 #[I J op] W fun e w'=>(∃(o:Int) (nm tk lv:List UInt8) (fx:Bool),e=Qr (.agg #[I J o,Qs (str nm),I J k,Qs (str tk),Qs (str lv),G fx]))∧Below W.heap.size W w')
  (hbe:∀W,Below w.heap.size w W→Calls QP 232 #[.agg #[I J op,I J a,I J b,I O n,I O h,V pl nl cl,V pb nb cb,V pe ne ce,G ot],I J k] W (BO W X)) :
  Calls QP 210 #[.agg #[I J op,I J a,I J b,I O n,I O h,V pl nl cl,V pb nb cb,V pe ne ce,G ot]] w (BO w ([]++[253]++uI (op-64768)++X)):=by
 have hfl:=run_fld
 have HOF:=fun W=>hid (hof W)
 have HBE:=fun W hW=>hid (hbe W hW)
 have HX0:=hid (CA.new w #[I J op,I J a,I J b,I O n,I O h,V pl nl cl,V pb nb cb,V pe ne ce,G ot] 39)
 have HRX:=hid ((RF.refl w.heap.size w).alloc (Qc #[I J op,I J a,I J b,I O n,I O h,V pl nl cl,V pb nb cb,V pe ne ce,G ot] 39))
 obtain ⟨y0,y1,y2,y3,y4,y5,y6,y7,y8⟩:=ca9 HX0.out
 have HSZ:Hid (w.heap.size≤w.heap.size):=Ql _
 have d0:decide (op<64512)=false:=by simp;omega
 have d1:decide (op<64768)=false:=by simp;omega
 have hw1:IntKind.i64.wrap (op-64768)=op-64768:=IntWalk.i64_in _ (by omega)
 have q1:=uI_len (op-64768)
 have HN0:=hid (show ([]:List UInt8).length+[(253:UInt8)].length≤140737488355000 by simp)
 have HN2:=hid (show ([]++[(253:UInt8)]).length+(uI (op-64768)).length≤140737488355000 by simp;omega)
 have HN1:=hid (show ([]++[(253:UInt8)]++uI (op-64768)).length+X.length≤140737488355000 by simp;omega)
 have HOP:=hid hop
 clear hof hbe hop hX q1
 go_enter Tryz.func210,Tryz.ntmps210
 go_upto_region 6 with fail
 clear y0 y1 y2 y3 y4 y5 y6 y7 y8
 have hS:RF w.heap.size w (w.alloc (Qc #[I J op,I J a,I J b,I O n,I O h,V pl nl cl,V pb nb cb,V pe ne ce,G ot] 39)).drew∧CA w.heap.size #[I J op,I J a,I J b,I O n,I O h,V pl nl cl,V pb nb cb,V pe ne ce,G ot] 39 (w.alloc (Qc #[I J op,I J a,I J b,I O n,I O h,V pl nl cl,V pb nb cb,V pe ne ce,G ot] 39)).drew:=⟨HRX.out.drew,HX0.out⟩
 have HO0:=hid (own_nil (w.alloc (Qc #[I J op,I J a,I J b,I O n,I O h,V pl nl cl,V pb nb cb,V pe ne ce,G ot] 39)).drew w.heap.size)
 refine wp_region_held_drew (S:=fun W=>RF w.heap.size w W∧CA w.heap.size #[I J op,I J a,I J b,I O n,I O h,V pl nl cl,V pb nb cb,V pe ne ce,G ot] 39 W) (by kernel_rfl) hS (fun _=>?_)
 generalize (w.alloc (Qc #[I J op,I J a,I J b,I O n,I O h,V pl nl cl,V pb nb cb,V pe ne ce,G ot] 39)).drew=W at *
 refine zt 0 (V none 0 0) rfl ?_ ?_
 ·(intro W hSw;obtain ⟨x0,x1,x2,x3,x4,x5,x6,x7,x8⟩:=ca9 hSw.2;go_simp;try (with_reducible rfl))
 try simp only[Qu,sl2,sl0,sl1]
 refine zt 3 (Qp (some ⟨w.heap.size,0,none⟩)) rfl ?_ ?_
 ·(intro W hSw;obtain ⟨x0,x1,x2,x3,x4,x5,x6,x7,x8⟩:=ca9 hSw.2;go_simp;try (with_reducible rfl))
 try simp only[Qu,sl2,sl0,sl1]
 refine zt 4 (I J op) rfl ?_ ?_
 ·(intro W hSw;obtain ⟨x0,x1,x2,x3,x4,x5,x6,x7,x8⟩:=ca9 hSw.2;go_simp;try (with_reducible rfl))
 try simp only[Qu,sl2,sl0,sl1]
 refine zt 5 (I J (op-64768)) rfl ?_ ?_
 ·(intro W hSw;obtain ⟨x0,x1,x2,x3,x4,x5,x6,x7,x8⟩:=ca9 hSw.2;go_simp;try (with_reducible rfl))
 try simp only[Qu,sl2,sl0,sl1]
 refine zr 1 rfl (fun K hK=>?_)
 go_simp
 have HO1:=hid (own_less (own_litc W 253 253 rfl) (show w.heap.size≤W.heap.size from hS.1.size))
 replace HO0:=hid (own_kept HO0.out ((QB W.heap.size W).alloc (Ql _) (Qc #[.int .u8 253] 5)))
 replace hS:=And.intro (hS.1.alloc (Qc #[.int .u8 253] 5)) (hS.2.alloc (Qc #[.int .u8 253] 5))
 generalize W.alloc (Qc #[.int .u8 253] 5)=W1 at *
 generalize W.heap.size=n1 at *
 refine hK.out _ _ hS (fun _=>?_)
 clear hK K
 try simp only[Qu,sl2,sl0,sl1]
 refine zr 2 rfl (fun K hK=>?_)
 refine append_rowS rfl (.tmp 24) (.tmp 25) rfl w.heap.size _ _ _ _ _ w HO0.out HO1.out HN0.out (Ql _) hS.1 rfl rfl ?_
 intro p2 m2 c2 W2 ho3 hr
 replace hS:=And.intro (hS.1.trans hr) (hS.2.rf hr (by decide))
 have HO2:=hid ho3
 clear ho3 hr HO0 HO1
 refine hK.out _ _ hS (fun _=>?_)
 clear hK K
 try simp only[Qu,sl2,sl0,sl1]
 refine zr 6 rfl (fun K hK=>?_)
 go_simp
 go_at_call 133
 (with_reducible refine (RU_says (op-64768) W2).mono ?_)
 rintro e W3 ⟨v,rfl,ho,hb⟩
 obtain ⟨p4,m4,c4,rfl⟩:=own_slice ho
 have HO4:=hid (own_less ho (Qk HSZ.out hS.1.size))
 replace HO2:=hid (own_kept HO2.out hb)
 replace hS:=And.intro (hS.1.trans (RF.of hb)) (hS.2.below hb hS.2.lt)
 clear ho hb
 refine hK.out _ _ hS (fun _=>?_)
 clear hK K
 try simp only[Qu,sl2,sl0,sl1]
 refine zr 7 rfl (fun K hK=>?_)
 refine append_rowS rfl (.tmp 26) (.tmp 30) rfl w.heap.size _ _ _ _ _ w HO2.out HO4.out HN2.out (Ql _) hS.1 rfl rfl ?_
 intro p3 m3 c3 W4 ho3 hr
 replace hS:=And.intro (hS.1.trans hr) (hS.2.rf hr (by decide))
 have HO3:=hid ho3
 clear ho3 hr HO2 HO4
 refine hK.out _ _ hS (fun _=>?_)
 clear hK K
 try simp only[Qu,sl2,sl0,sl1]
 refine zt 8 (V p3 m3 c3) rfl ?_ ?_
 ·(intro W hSw;obtain ⟨x0,x1,x2,x3,x4,x5,x6,x7,x8⟩:=ca9 hSw.2;go_simp;try (with_reducible rfl))
 try simp only[Qu,sl2,sl0,sl1]
 refine wpAnyH_done (by kernel_rfl) ?_ _
 have HF:=hid hS.1
 have HT:=HO3
 have HX1:=hid hS.2
 clear hS HX0 HRX
 generalize W4=w3 at *
 go_upto_region 7 with fail
 have hS:RF w.heap.size w w3.drew∧CA w.heap.size #[I J op,I J a,I J b,I O n,I O h,V pl nl cl,V pb nb cb,V pe ne ce,G ot] 39 w3.drew:=⟨HF.out.drew,HX1.out⟩
 have HO0:Hid (w3.drew.ownsRow w.heap.size 5 1 (V p3 m3 c3) ([]++[253]++uI (op-64768)).length (QY ([]++[253]++uI (op-64768)))):=HT
 clear HF HT HX1
 refine wp_region_held_drew (S:=fun W=>RF w.heap.size w W∧CA w.heap.size #[I J op,I J a,I J b,I O n,I O h,V pl nl cl,V pb nb cb,V pe ne ce,G ot] 39 W) (by kernel_rfl) hS (fun _=>?_)
 generalize w3.drew=W at *
 refine zt 0 (V p3 m3 c3) rfl ?_ ?_
 ·(intro W hSw;obtain ⟨x0,x1,x2,x3,x4,x5,x6,x7,x8⟩:=ca9 hSw.2;go_simp;try (with_reducible rfl))
 try simp only[Qu,sl2,sl0,sl1]
 refine zt 1 (.agg #[I J op,I J a,I J b,I O n,I O h,V pl nl cl,V pb nb cb,V pe ne ce,G ot]) rfl ?_ ?_
 ·(intro W hSw;obtain ⟨x0,x1,x2,x3,x4,x5,x6,x7,x8⟩:=ca9 hSw.2;go_simp;try (with_reducible rfl))
 try simp only[Qu,sl2,sl0,sl1]
 refine zt 2 (Qp (some ⟨w.heap.size,0,none⟩)) rfl ?_ ?_
 ·(intro W hSw;obtain ⟨x0,x1,x2,x3,x4,x5,x6,x7,x8⟩:=ca9 hSw.2;go_simp;try (with_reducible rfl))
 try simp only[Qu,sl2,sl0,sl1]
 refine zt 3 (I J op) rfl ?_ ?_
 ·(intro W hSw;obtain ⟨x0,x1,x2,x3,x4,x5,x6,x7,x8⟩:=ca9 hSw.2;go_simp;try (with_reducible rfl))
 try simp only[Qu,sl2,sl0,sl1]
 refine zr 4 rfl (fun K hK=>?_)
 go_simp
 go_at_call 153
 (with_reducible refine (HOF W).out.mono ?_)
 rintro e W1 ⟨⟨o,nm,tk,lv,fx,rfl⟩,hb⟩
 replace HO0:=hid (own_kept HO0.out hb)
 replace hS:=And.intro (hS.1.trans (RF.of hb)) (hS.2.below hb hS.2.lt)
 clear hb
 refine hK.out _ _ hS (fun _=>?_)
 clear hK K
 try simp only[Qu,sl2,sl0,sl1]
 refine zt 5 (I J k) rfl ?_ ?_
 ·(intro W hSw;obtain ⟨x0,x1,x2,x3,x4,x5,x6,x7,x8⟩:=ca9 hSw.2;go_simp;try (with_reducible rfl))
 try simp only[Qu,sl2,sl0,sl1]
 refine zr 6 rfl (fun K hK=>?_)
 go_simp
 go_at_call 232
 (with_reducible refine ((HBE W1 (hS.1.below (Ql _))).out).mono ?_)
 rintro e W2 ⟨v,rfl,ho,hb⟩
 obtain ⟨p8,m8,c8,rfl⟩:=own_slice ho
 have HO8:=hid (own_less ho (Qk HSZ.out hS.1.size))
 replace HO0:=hid (own_kept HO0.out hb)
 replace hS:=And.intro (hS.1.trans (RF.of hb)) (hS.2.below hb hS.2.lt)
 clear ho hb
 refine hK.out _ _ hS (fun _=>?_)
 clear hK K
 try simp only[Qu,sl2,sl0,sl1]
 refine zr 7 rfl (fun K hK=>?_)
 refine append_rowS rfl (.tmp 32) (.tmp 38) rfl w.heap.size _ _ _ _ _ w HO0.out HO8.out HN1.out (Ql _) hS.1 rfl rfl ?_
 intro p9 m9 c9 W3 ho3 hr
 replace hS:=And.intro (hS.1.trans hr) (hS.2.rf hr (by decide))
 have HO9:=hid ho3
 clear ho3 hr HO0 HO8
 refine hK.out _ _ hS (fun _=>?_)
 clear hK K
 try simp only[Qu,sl2,sl0,sl1]
 refine zt 8 (V p9 m9 c9) rfl ?_ ?_
 ·(intro W hSw;obtain ⟨x0,x1,x2,x3,x4,x5,x6,x7,x8⟩:=ca9 hSw.2;go_simp;try (with_reducible rfl))
 try simp only[Qu,sl2,sl0,sl1]
 refine wpAnyH_done (by kernel_rfl) ?_ _
 have HF:=hid hS.1
 clear hS
 go_wp2
 go_ret
 exact ⟨_,rfl,HO9.out,HF.out.below (Ql _)⟩
end Go.Proofs.YtjgeedgphcjhoaaGreat
