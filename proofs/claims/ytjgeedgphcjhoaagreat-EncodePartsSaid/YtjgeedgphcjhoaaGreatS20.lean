/-
  RBeh1, RBeh2, RBeh3, RBeh4, RBeh5: merged, what the law does not reach left out (each text says what it holds where it lies in wip). No condition.
-/
import Derived.Test.YtjgeedgphcjhoaaGreatS19
import Derived.Deep.RegionHeld3
import Derived.Test.YtjgeedgphcjhoaaGreatS01
set_option linter.unusedSimpArgs false
set_option linter.unusedVariables false
set_option maxRecDepth 100000
set_option maxHeartbeats 64000000
namespace Go.Proofs.YtjgeedgphcjhoaaGreat
open Go.RowKit
open Value renaming int → I,slice → V,bool → G,pointer → Qp
open IntKind renaming i64 → J,u64 → O
open Obj renaming cells → Qc
open _root_.Go.Proofs.Tryz renaming prog → QP
open Nat renaming le_refl → Ql,le_trans → Qk
open List renaming length_append → QA,length_map → QM
open Below renaming refl → QB
open Act renaming put → Qu
open Lib renaming byteCells → QY
theorem beh_0 (op a b:Int) (n h:Nat) (l:List Int) (pl pb pe:Option Addr) (cl nb cb ne ce:Nat) (ot:Bool) (B:Nat) (w:World) (hB:B≤w.heap.size) (hl:LI B w (V pl l.length cl) l) (hnl:l.length+200≤1000000000000) (hnn:n<18446744073709551616) (hh:h<18446744073709551616) :
  Calls QP 232 #[.agg #[I J op,I J a,I J b,I O n,I O h,V pl l.length cl,V pb nb cb,V pe ne ce,G ot],I J 0] w (BO w ([])):=by
 have HX0:=hid (CA.new w #[I J op,I J a,I J b,I O n,I O h,V pl l.length cl,V pb nb cb,V pe ne ce,G ot] 39)
 have HBX:=hid ((QB w.heap.size w).alloc (Ql _) (Qc #[I J op,I J a,I J b,I O n,I O h,V pl l.length cl,V pb nb cb,V pe ne ce,G ot] 39))
 have HRX:=hid ((RF.refl w.heap.size w).alloc (Qc #[I J op,I J a,I J b,I O n,I O h,V pl l.length cl,V pb nb cb,V pe ne ce,G ot] 39))
 obtain ⟨y0,y1,y2,y3,y4,y5,y6,y7,y8⟩:=ca9 HX0.out
 have hLI:∀W,Below B w W→LI B W (V pl l.length cl) l:=fun W hW=>hl.below hW
 have HLI:=fun W (hW:Below w.heap.size w W)=>hid (hLI W (hW.mono hB))
 have Hn:=hid hnn
 have Hh:=hid hh
 have HBB:=hid hB
 have HSZ:Hid (w.heap.size≤w.heap.size):=Ql _
 have HLN:=hid hnl
 have q1:=uI_len a
 have q2:=uI_len b
 have q3:=usL_len l
 have q5:=uI_len l.length
 have HS0:Hid (RF w.heap.size w (w.alloc (Qc #[I J op,I J a,I J b,I O n,I O h,V pl l.length cl,V pb nb cb,V pe ne ce,G ot] 39))∧CA w.heap.size #[I J op,I J a,I J b,I O n,I O h,V pl l.length cl,V pb nb cb,V pe ne ce,G ot] 39 (w.alloc (Qc #[I J op,I J a,I J b,I O n,I O h,V pl l.length cl,V pb nb cb,V pe ne ce,G ot] 39))):=⟨HRX.out,HX0.out⟩
 clear q1 q2 q3 q5 hl hnl hnn hh hB hLI
 go_enter Tryz.func232,Tryz.ntmps232
 go_wp2
 go_ret
 exact ⟨_,rfl,own_nil _ _,HBX.out⟩
theorem beh_2 (K:Int) (hK:K=2∨K=4∨K=7∨K=8∨K=9∨K=18∨K=21) (op a b:Int) (n h:Nat) (l:List Int) (pl pb pe:Option Addr) (cl nb cb ne ce:Nat) (ot:Bool) (B:Nat) (w:World) (hB:B≤w.heap.size) (hl:LI B w (V pl l.length cl) l) (hnl:l.length+200≤1000000000000) (hnn:n<18446744073709551616) (hh:h<18446744073709551616) :
  Calls QP 232 #[.agg #[I J op,I J a,I J b,I O n,I O h,V pl l.length cl,V pb nb cb,V pe ne ce,G ot],I J K] w (BO w (uI a)):=by
 rcases hK with rfl|rfl|rfl|rfl|rfl|rfl|rfl
 all_goals
  have HX0:=hid (CA.new w #[I J op,I J a,I J b,I O n,I O h,V pl l.length cl,V pb nb cb,V pe ne ce,G ot] 39)
  have HBX:=hid ((QB w.heap.size w).alloc (Ql _) (Qc #[I J op,I J a,I J b,I O n,I O h,V pl l.length cl,V pb nb cb,V pe ne ce,G ot] 39))
  have HRX:=hid ((RF.refl w.heap.size w).alloc (Qc #[I J op,I J a,I J b,I O n,I O h,V pl l.length cl,V pb nb cb,V pe ne ce,G ot] 39))
  obtain ⟨y0,y1,y2,y3,y4,y5,y6,y7,y8⟩:=ca9 HX0.out
  have hLI:∀W,Below B w W→LI B W (V pl l.length cl) l:=fun W hW=>hl.below hW
  have HLI:=fun W (hW:Below w.heap.size w W)=>hid (hLI W (hW.mono hB))
  have Hn:=hid hnn
  have Hh:=hid hh
  have HBB:=hid hB
  have HSZ:Hid (w.heap.size≤w.heap.size):=Ql _
  have HLN:=hid hnl
  have q1:=uI_len a
  have q2:=uI_len b
  have q3:=usL_len l
  have q5:=uI_len l.length
  have HS0:Hid (RF w.heap.size w (w.alloc (Qc #[I J op,I J a,I J b,I O n,I O h,V pl l.length cl,V pb nb cb,V pe ne ce,G ot] 39))∧CA w.heap.size #[I J op,I J a,I J b,I O n,I O h,V pl l.length cl,V pb nb cb,V pe ne ce,G ot] 39 (w.alloc (Qc #[I J op,I J a,I J b,I O n,I O h,V pl l.length cl,V pb nb cb,V pe ne ce,G ot] 39))):=⟨HRX.out,HX0.out⟩
  clear q1 q2 q3 q5 hl hnl hnn hh hB hLI
  go_enter Tryz.func232,Tryz.ntmps232
  go_wp2_with (go_at_call 133;(with_reducible refine (RU_says a _).mono ?_);rintro e w1 ⟨v,rfl,ho,hb⟩;obtain ⟨p1,m1,c1,rfl⟩:=own_slice ho;have HO1:=hid (own_less ho HBX.out.size);have HB1:=Qd HBX hb;clear ho hb)
  go_ret
  exact ⟨_,rfl,HO1.out,HB1.out⟩
theorem beh_11 (op a b:Int) (n h:Nat) (l:List Int) (pl pb pe:Option Addr) (cl nb cb ne ce:Nat) (ot:Bool) (B:Nat) (w:World) (hB:B≤w.heap.size) (hl:LI B w (V pl l.length cl) l) (hnl:l.length+200≤1000000000000) (hnn:n<18446744073709551616) (hh:h<18446744073709551616) :
  Calls QP 232 #[.agg #[I J op,I J a,I J b,I O n,I O h,V pl l.length cl,V pb nb cb,V pe ne ce,G ot],I J 11] w (BO w ([0])):=by
 have HX0:=hid (CA.new w #[I J op,I J a,I J b,I O n,I O h,V pl l.length cl,V pb nb cb,V pe ne ce,G ot] 39)
 have HBX:=hid ((QB w.heap.size w).alloc (Ql _) (Qc #[I J op,I J a,I J b,I O n,I O h,V pl l.length cl,V pb nb cb,V pe ne ce,G ot] 39))
 have HRX:=hid ((RF.refl w.heap.size w).alloc (Qc #[I J op,I J a,I J b,I O n,I O h,V pl l.length cl,V pb nb cb,V pe ne ce,G ot] 39))
 obtain ⟨y0,y1,y2,y3,y4,y5,y6,y7,y8⟩:=ca9 HX0.out
 have hLI:∀W,Below B w W→LI B W (V pl l.length cl) l:=fun W hW=>hl.below hW
 have HLI:=fun W (hW:Below w.heap.size w W)=>hid (hLI W (hW.mono hB))
 have Hn:=hid hnn
 have Hh:=hid hh
 have HBB:=hid hB
 have HSZ:Hid (w.heap.size≤w.heap.size):=Ql _
 have HLN:=hid hnl
 have q1:=uI_len a
 have q2:=uI_len b
 have q3:=usL_len l
 have q5:=uI_len l.length
 have HS0:Hid (RF w.heap.size w (w.alloc (Qc #[I J op,I J a,I J b,I O n,I O h,V pl l.length cl,V pb nb cb,V pe ne ce,G ot] 39))∧CA w.heap.size #[I J op,I J a,I J b,I O n,I O h,V pl l.length cl,V pb nb cb,V pe ne ce,G ot] 39 (w.alloc (Qc #[I J op,I J a,I J b,I O n,I O h,V pl l.length cl,V pb nb cb,V pe ne ce,G ot] 39))):=⟨HRX.out,HX0.out⟩
 clear q1 q2 q3 q5 hl hnl hnn hh hB hLI
 go_enter Tryz.func232,Tryz.ntmps232
 go_wp2
 go_ret
 have ho:=own_litc (w.alloc (Qc #[I J op,I J a,I J b,I O n,I O h,V pl l.length cl,V pb nb cb,V pe ne ce,G ot] 39)) 0 0 rfl
 rw[size_al]at ho
 exact ⟨_,rfl,own_less ho (Nat.le_succ _),HBX.out.alloc HBX.out.size _⟩
theorem beh_12 (op a b:Int) (n h:Nat) (l:List Int) (pl pb pe:Option Addr) (cl nb cb ne ce:Nat) (ot:Bool) (B:Nat) (w:World) (hB:B≤w.heap.size) (hl:LI B w (V pl l.length cl) l) (hnl:l.length+200≤1000000000000) (hnn:n<18446744073709551616) (hh:h<18446744073709551616) :
  Calls QP 232 #[.agg #[I J op,I J a,I J b,I O n,I O h,V pl l.length cl,V pb nb cb,V pe ne ce,G ot],I J 12] w (BO w (slist (sgnN 32 n))):=by
 have HX0:=hid (CA.new w #[I J op,I J a,I J b,I O n,I O h,V pl l.length cl,V pb nb cb,V pe ne ce,G ot] 39)
 have HBX:=hid ((QB w.heap.size w).alloc (Ql _) (Qc #[I J op,I J a,I J b,I O n,I O h,V pl l.length cl,V pb nb cb,V pe ne ce,G ot] 39))
 have HRX:=hid ((RF.refl w.heap.size w).alloc (Qc #[I J op,I J a,I J b,I O n,I O h,V pl l.length cl,V pb nb cb,V pe ne ce,G ot] 39))
 obtain ⟨y0,y1,y2,y3,y4,y5,y6,y7,y8⟩:=ca9 HX0.out
 have hLI:∀W,Below B w W→LI B W (V pl l.length cl) l:=fun W hW=>hl.below hW
 have HLI:=fun W (hW:Below w.heap.size w W)=>hid (hLI W (hW.mono hB))
 have Hn:=hid hnn
 have Hh:=hid hh
 have HBB:=hid hB
 have HSZ:Hid (w.heap.size≤w.heap.size):=Ql _
 have HLN:=hid hnl
 have q1:=uI_len a
 have q2:=uI_len b
 have q3:=usL_len l
 have q5:=uI_len l.length
 have HS0:Hid (RF w.heap.size w (w.alloc (Qc #[I J op,I J a,I J b,I O n,I O h,V pl l.length cl,V pb nb cb,V pe ne ce,G ot] 39))∧CA w.heap.size #[I J op,I J a,I J b,I O n,I O h,V pl l.length cl,V pb nb cb,V pe ne ce,G ot] 39 (w.alloc (Qc #[I J op,I J a,I J b,I O n,I O h,V pl l.length cl,V pb nb cb,V pe ne ce,G ot] 39))):=⟨HRX.out,HX0.out⟩
 have HSG:=hid (sgnN_in 32 n (.inl rfl))
 clear q1 q2 q3 q5 hl hnl hnn hh hB hLI
 go_enter Tryz.func232,Tryz.ntmps232
 go_wp2_with (first
  |(go_at_call 247;(with_reducible refine (RSigned_32 n Hn.out _).mono ?_);rintro e w0 ⟨rfl,rfl⟩)
  |(go_at_call 246;(with_reducible refine (refS_any (sgnN 32 n) HSG.out.1 HSG.out.2 _).mono ?_);rintro e w1 ⟨v,rfl,ho,hb⟩;obtain ⟨p1,m1,c1,rfl⟩:=own_slice ho;have HO1:=hid (own_less ho HBX.out.size);have HB1:=Qd HBX hb;clear ho hb))
 go_ret
 exact ⟨_,rfl,HO1.out,HB1.out⟩
theorem beh_13 (op a b:Int) (n h:Nat) (l:List Int) (pl pb pe:Option Addr) (cl nb cb ne ce:Nat) (ot:Bool) (B:Nat) (w:World) (hB:B≤w.heap.size) (hl:LI B w (V pl l.length cl) l) (hnl:l.length+200≤1000000000000) (hnn:n<18446744073709551616) (hh:h<18446744073709551616) :
  Calls QP 232 #[.agg #[I J op,I J a,I J b,I O n,I O h,V pl l.length cl,V pb nb cb,V pe ne ce,G ot],I J 13] w (BO w (slist (sgnN 64 n))):=by
 have HX0:=hid (CA.new w #[I J op,I J a,I J b,I O n,I O h,V pl l.length cl,V pb nb cb,V pe ne ce,G ot] 39)
 have HBX:=hid ((QB w.heap.size w).alloc (Ql _) (Qc #[I J op,I J a,I J b,I O n,I O h,V pl l.length cl,V pb nb cb,V pe ne ce,G ot] 39))
 have HRX:=hid ((RF.refl w.heap.size w).alloc (Qc #[I J op,I J a,I J b,I O n,I O h,V pl l.length cl,V pb nb cb,V pe ne ce,G ot] 39))
 obtain ⟨y0,y1,y2,y3,y4,y5,y6,y7,y8⟩:=ca9 HX0.out
 have hLI:∀W,Below B w W→LI B W (V pl l.length cl) l:=fun W hW=>hl.below hW
 have HLI:=fun W (hW:Below w.heap.size w W)=>hid (hLI W (hW.mono hB))
 have Hn:=hid hnn
 have Hh:=hid hh
 have HBB:=hid hB
 have HSZ:Hid (w.heap.size≤w.heap.size):=Ql _
 have HLN:=hid hnl
 have q1:=uI_len a
 have q2:=uI_len b
 have q3:=usL_len l
 have q5:=uI_len l.length
 have HS0:Hid (RF w.heap.size w (w.alloc (Qc #[I J op,I J a,I J b,I O n,I O h,V pl l.length cl,V pb nb cb,V pe ne ce,G ot] 39))∧CA w.heap.size #[I J op,I J a,I J b,I O n,I O h,V pl l.length cl,V pb nb cb,V pe ne ce,G ot] 39 (w.alloc (Qc #[I J op,I J a,I J b,I O n,I O h,V pl l.length cl,V pb nb cb,V pe ne ce,G ot] 39))):=⟨HRX.out,HX0.out⟩
 have HSG:=hid (sgnN_in 64 n (.inr rfl))
 have hw64:=wrap_64 n hnn
 clear q1 q2 q3 q5 hl hnl hnn hh hB hLI
 go_enter Tryz.func232,Tryz.ntmps232
 go_wp2_with (go_at_call 246;(with_reducible refine (refS_any (sgnN 64 n) HSG.out.1 HSG.out.2 _).mono ?_);rintro e w1 ⟨v,rfl,ho,hb⟩;obtain ⟨p1,m1,c1,rfl⟩:=own_slice ho;have HO1:=hid (own_less ho HBX.out.size);have HB1:=Qd HBX hb;clear ho hb)
 go_ret
 exact ⟨_,rfl,HO1.out,HB1.out⟩
theorem beh_14 (op a b:Int) (n h:Nat) (l:List Int) (pl pb pe:Option Addr) (cl nb cb ne ce:Nat) (ot:Bool) (B:Nat) (w:World) (hB:B≤w.heap.size) (hl:LI B w (V pl l.length cl) l) (hnl:l.length+200≤1000000000000) (hnn:n<18446744073709551616) (hh:h<18446744073709551616) :
  Calls QP 232 #[.agg #[I J op,I J a,I J b,I O n,I O h,V pl l.length cl,V pb nb cb,V pe ne ce,G ot],I J 14] w (BO w (lowL 4 n)):=by
 have HX0:=hid (CA.new w #[I J op,I J a,I J b,I O n,I O h,V pl l.length cl,V pb nb cb,V pe ne ce,G ot] 39)
 have HBX:=hid ((QB w.heap.size w).alloc (Ql _) (Qc #[I J op,I J a,I J b,I O n,I O h,V pl l.length cl,V pb nb cb,V pe ne ce,G ot] 39))
 have HRX:=hid ((RF.refl w.heap.size w).alloc (Qc #[I J op,I J a,I J b,I O n,I O h,V pl l.length cl,V pb nb cb,V pe ne ce,G ot] 39))
 obtain ⟨y0,y1,y2,y3,y4,y5,y6,y7,y8⟩:=ca9 HX0.out
 have hLI:∀W,Below B w W→LI B W (V pl l.length cl) l:=fun W hW=>hl.below hW
 have HLI:=fun W (hW:Below w.heap.size w W)=>hid (hLI W (hW.mono hB))
 have Hn:=hid hnn
 have Hh:=hid hh
 have HBB:=hid hB
 have HSZ:Hid (w.heap.size≤w.heap.size):=Ql _
 have HLN:=hid hnl
 have q1:=uI_len a
 have q2:=uI_len b
 have q3:=usL_len l
 have q5:=uI_len l.length
 have HS0:Hid (RF w.heap.size w (w.alloc (Qc #[I J op,I J a,I J b,I O n,I O h,V pl l.length cl,V pb nb cb,V pe ne ce,G ot] 39))∧CA w.heap.size #[I J op,I J a,I J b,I O n,I O h,V pl l.length cl,V pb nb cb,V pe ne ce,G ot] 39 (w.alloc (Qc #[I J op,I J a,I J b,I O n,I O h,V pl l.length cl,V pb nb cb,V pe ne ce,G ot] 39))):=⟨HRX.out,HX0.out⟩
 clear q1 q2 q3 q5 hl hnl hnn hh hB hLI
 go_enter Tryz.func232,Tryz.ntmps232
 go_wp2_with (go_at_call 248;(with_reducible refine (low_4 n Hn.out _).mono ?_);rintro e w1 ⟨v,rfl,ho,hb⟩;obtain ⟨p1,m1,c1,rfl⟩:=own_slice ho;have HO1:=hid (own_less ho HBX.out.size);have HB1:=Qd HBX hb;clear ho hb)
 go_ret
 exact ⟨_,rfl,HO1.out,HB1.out⟩
theorem beh_15 (op a b:Int) (n h:Nat) (l:List Int) (pl pb pe:Option Addr) (cl nb cb ne ce:Nat) (ot:Bool) (B:Nat) (w:World) (hB:B≤w.heap.size) (hl:LI B w (V pl l.length cl) l) (hnl:l.length+200≤1000000000000) (hnn:n<18446744073709551616) (hh:h<18446744073709551616) :
  Calls QP 232 #[.agg #[I J op,I J a,I J b,I O n,I O h,V pl l.length cl,V pb nb cb,V pe ne ce,G ot],I J 15] w (BO w (lowL 8 n)):=by
 have HX0:=hid (CA.new w #[I J op,I J a,I J b,I O n,I O h,V pl l.length cl,V pb nb cb,V pe ne ce,G ot] 39)
 have HBX:=hid ((QB w.heap.size w).alloc (Ql _) (Qc #[I J op,I J a,I J b,I O n,I O h,V pl l.length cl,V pb nb cb,V pe ne ce,G ot] 39))
 have HRX:=hid ((RF.refl w.heap.size w).alloc (Qc #[I J op,I J a,I J b,I O n,I O h,V pl l.length cl,V pb nb cb,V pe ne ce,G ot] 39))
 obtain ⟨y0,y1,y2,y3,y4,y5,y6,y7,y8⟩:=ca9 HX0.out
 have hLI:∀W,Below B w W→LI B W (V pl l.length cl) l:=fun W hW=>hl.below hW
 have HLI:=fun W (hW:Below w.heap.size w W)=>hid (hLI W (hW.mono hB))
 have Hn:=hid hnn
 have Hh:=hid hh
 have HBB:=hid hB
 have HSZ:Hid (w.heap.size≤w.heap.size):=Ql _
 have HLN:=hid hnl
 have q1:=uI_len a
 have q2:=uI_len b
 have q3:=usL_len l
 have q5:=uI_len l.length
 have HS0:Hid (RF w.heap.size w (w.alloc (Qc #[I J op,I J a,I J b,I O n,I O h,V pl l.length cl,V pb nb cb,V pe ne ce,G ot] 39))∧CA w.heap.size #[I J op,I J a,I J b,I O n,I O h,V pl l.length cl,V pb nb cb,V pe ne ce,G ot] 39 (w.alloc (Qc #[I J op,I J a,I J b,I O n,I O h,V pl l.length cl,V pb nb cb,V pe ne ce,G ot] 39))):=⟨HRX.out,HX0.out⟩
 clear q1 q2 q3 q5 hl hnl hnn hh hB hLI
 go_enter Tryz.func232,Tryz.ntmps232
 go_wp2_with (go_at_call 248;(with_reducible refine (low_8 n Hn.out _).mono ?_);rintro e w1 ⟨v,rfl,ho,hb⟩;obtain ⟨p1,m1,c1,rfl⟩:=own_slice ho;have HO1:=hid (own_less ho HBX.out.size);have HB1:=Qd HBX hb;clear ho hb)
 go_ret
 exact ⟨_,rfl,HO1.out,HB1.out⟩
theorem beh_16 (K:Int) (hK:K=16∨K=25) (op a b:Int) (n h:Nat) (l:List Int) (pl pb pe:Option Addr) (cl nb cb ne ce:Nat) (ot:Bool) (B:Nat) (w:World) (hB:B≤w.heap.size) (hl:LI B w (V pl l.length cl) l) (hnl:l.length+200≤1000000000000) (hnn:n<18446744073709551616) (hh:h<18446744073709551616) :
  Calls QP 232 #[.agg #[I J op,I J a,I J b,I O n,I O h,V pl l.length cl,V pb nb cb,V pe ne ce,G ot],I J K] w (BO w ([byI a])):=by
 rcases hK with rfl|rfl
 all_goals
  have HX0:=hid (CA.new w #[I J op,I J a,I J b,I O n,I O h,V pl l.length cl,V pb nb cb,V pe ne ce,G ot] 39)
  have HBX:=hid ((QB w.heap.size w).alloc (Ql _) (Qc #[I J op,I J a,I J b,I O n,I O h,V pl l.length cl,V pb nb cb,V pe ne ce,G ot] 39))
  have HRX:=hid ((RF.refl w.heap.size w).alloc (Qc #[I J op,I J a,I J b,I O n,I O h,V pl l.length cl,V pb nb cb,V pe ne ce,G ot] 39))
  obtain ⟨y0,y1,y2,y3,y4,y5,y6,y7,y8⟩:=ca9 HX0.out
  have hLI:∀W,Below B w W→LI B W (V pl l.length cl) l:=fun W hW=>hl.below hW
  have HLI:=fun W (hW:Below w.heap.size w W)=>hid (hLI W (hW.mono hB))
  have Hn:=hid hnn
  have Hh:=hid hh
  have HBB:=hid hB
  have HSZ:Hid (w.heap.size≤w.heap.size):=Ql _
  have HLN:=hid hnl
  have q1:=uI_len a
  have q2:=uI_len b
  have q3:=usL_len l
  have q5:=uI_len l.length
  have HS0:Hid (RF w.heap.size w (w.alloc (Qc #[I J op,I J a,I J b,I O n,I O h,V pl l.length cl,V pb nb cb,V pe ne ce,G ot] 39))∧CA w.heap.size #[I J op,I J a,I J b,I O n,I O h,V pl l.length cl,V pb nb cb,V pe ne ce,G ot] 39 (w.alloc (Qc #[I J op,I J a,I J b,I O n,I O h,V pl l.length cl,V pb nb cb,V pe ne ce,G ot] 39))):=⟨HRX.out,HX0.out⟩
  clear q1 q2 q3 q5 hl hnl hnn hh hB hLI
  go_enter Tryz.func232,Tryz.ntmps232
  go_wp2
  go_ret
  have ho:=own_lit1 (w.alloc (Qc #[I J op,I J a,I J b,I O n,I O h,V pl l.length cl,V pb nb cb,V pe ne ce,G ot] 39)) a
  rw[size_al]at ho
  exact ⟨_,rfl,own_less ho (Nat.le_succ _),HBX.out.alloc HBX.out.size _⟩
theorem beh_17 (op a b:Int) (n h:Nat) (l:List Int) (pl pb pe:Option Addr) (cl nb cb ne ce:Nat) (ot:Bool) (B:Nat) (w:World) (hB:B≤w.heap.size) (hl:LI B w (V pl l.length cl) l) (hnl:l.length+200≤1000000000000) (hnn:n<18446744073709551616) (hh:h<18446744073709551616) :
  Calls QP 232 #[.agg #[I J op,I J a,I J b,I O n,I O h,V pl l.length cl,V pb nb cb,V pe ne ce,G ot],I J 17] w (BO w (uI a++[0])):=by
 have HX0:=hid (CA.new w #[I J op,I J a,I J b,I O n,I O h,V pl l.length cl,V pb nb cb,V pe ne ce,G ot] 39)
 have HBX:=hid ((QB w.heap.size w).alloc (Ql _) (Qc #[I J op,I J a,I J b,I O n,I O h,V pl l.length cl,V pb nb cb,V pe ne ce,G ot] 39))
 have HRX:=hid ((RF.refl w.heap.size w).alloc (Qc #[I J op,I J a,I J b,I O n,I O h,V pl l.length cl,V pb nb cb,V pe ne ce,G ot] 39))
 obtain ⟨y0,y1,y2,y3,y4,y5,y6,y7,y8⟩:=ca9 HX0.out
 have hLI:∀W,Below B w W→LI B W (V pl l.length cl) l:=fun W hW=>hl.below hW
 have HLI:=fun W (hW:Below w.heap.size w W)=>hid (hLI W (hW.mono hB))
 have Hn:=hid hnn
 have Hh:=hid hh
 have HBB:=hid hB
 have HSZ:Hid (w.heap.size≤w.heap.size):=Ql _
 have HLN:=hid hnl
 have q1:=uI_len a
 have q2:=uI_len b
 have q3:=usL_len l
 have q5:=uI_len l.length
 have HS0:Hid (RF w.heap.size w (w.alloc (Qc #[I J op,I J a,I J b,I O n,I O h,V pl l.length cl,V pb nb cb,V pe ne ce,G ot] 39))∧CA w.heap.size #[I J op,I J a,I J b,I O n,I O h,V pl l.length cl,V pb nb cb,V pe ne ce,G ot] 39 (w.alloc (Qc #[I J op,I J a,I J b,I O n,I O h,V pl l.length cl,V pb nb cb,V pe ne ce,G ot] 39))):=⟨HRX.out,HX0.out⟩
 have HN:=hid (show (uI a).length+([0]:List UInt8).length≤140737488355000 by simp only[List.length_cons,List.length_nil];omega)
 clear q1 q2 q3 q5 hl hnl hnn hh hB hLI
 go_enter Tryz.func232,Tryz.ntmps232
 go_wp2_with (first
  |(go_at_call 133;(with_reducible refine (RU_says a _).mono ?_);rintro e w1 ⟨v,rfl,ho,hb⟩;obtain ⟨p1,m1,c1,rfl⟩:=own_slice ho;have HO1:=hid (own_less ho HBX.out.size);have HB1:=Qd HBX hb;clear ho hb)
  |(at_builtin;refine append_rowW rfl _ _ rfl w.heap.size _ _ _ _ _ w (own_kept HO1.out ((QB _ _).alloc (Ql _) _)) (own_litc w1 0 0 rfl) HN.out (Ql _) ((RF.of HB1.out).alloc _) rfl rfl ?_;intro p3 m3 c3 w3 ho3 hf3;have HO3:=hid ho3;have HF3:=hid hf3;clear ho3 hf3))
 go_ret
 exact ⟨_,rfl,HO3.out,HF3.out.below (Ql _)⟩
theorem beh_19 (op a b:Int) (n h:Nat) (l:List Int) (pl pb pe:Option Addr) (cl nb cb ne ce:Nat) (ot:Bool) (B:Nat) (w:World) (hB:B≤w.heap.size) (hl:LI B w (V pl l.length cl) l) (hnl:l.length+200≤1000000000000) (hnn:n<18446744073709551616) (hh:h<18446744073709551616) :
  Calls QP 232 #[.agg #[I J op,I J a,I J b,I O n,I O h,V pl l.length cl,V pb nb cb,V pe ne ce,G ot],I J 19] w (BO w ([0,0])):=by
 have HX0:=hid (CA.new w #[I J op,I J a,I J b,I O n,I O h,V pl l.length cl,V pb nb cb,V pe ne ce,G ot] 39)
 have HBX:=hid ((QB w.heap.size w).alloc (Ql _) (Qc #[I J op,I J a,I J b,I O n,I O h,V pl l.length cl,V pb nb cb,V pe ne ce,G ot] 39))
 have HRX:=hid ((RF.refl w.heap.size w).alloc (Qc #[I J op,I J a,I J b,I O n,I O h,V pl l.length cl,V pb nb cb,V pe ne ce,G ot] 39))
 obtain ⟨y0,y1,y2,y3,y4,y5,y6,y7,y8⟩:=ca9 HX0.out
 have hLI:∀W,Below B w W→LI B W (V pl l.length cl) l:=fun W hW=>hl.below hW
 have HLI:=fun W (hW:Below w.heap.size w W)=>hid (hLI W (hW.mono hB))
 have Hn:=hid hnn
 have Hh:=hid hh
 have HBB:=hid hB
 have HSZ:Hid (w.heap.size≤w.heap.size):=Ql _
 have HLN:=hid hnl
 have q1:=uI_len a
 have q2:=uI_len b
 have q3:=usL_len l
 have q5:=uI_len l.length
 have HS0:Hid (RF w.heap.size w (w.alloc (Qc #[I J op,I J a,I J b,I O n,I O h,V pl l.length cl,V pb nb cb,V pe ne ce,G ot] 39))∧CA w.heap.size #[I J op,I J a,I J b,I O n,I O h,V pl l.length cl,V pb nb cb,V pe ne ce,G ot] 39 (w.alloc (Qc #[I J op,I J a,I J b,I O n,I O h,V pl l.length cl,V pb nb cb,V pe ne ce,G ot] 39))):=⟨HRX.out,HX0.out⟩
 clear q1 q2 q3 q5 hl hnl hnn hh hB hLI
 go_enter Tryz.func232,Tryz.ntmps232
 go_wp2
 go_ret
 have ho:=World.ownsRow_lit (base:=w.heap.size) (e:=5) (size:=1) (w.alloc (Qc #[I J op,I J a,I J b,I O n,I O h,V pl l.length cl,V pb nb cb,V pe ne ce,G ot] 39)) #[.int .u8 0,.int .u8 0] 2 (by rw[size_al];omega) (by decide) rfl
 rw[size_al]at ho
 exact ⟨_,rfl,ho,HBX.out.alloc HBX.out.size _⟩
theorem beh_24 (op a b:Int) (n h:Nat) (l:List Int) (pl pb pe:Option Addr) (cl nb cb ne ce:Nat) (ot:Bool) (B:Nat) (w:World) (hB:B≤w.heap.size) (hl:LI B w (V pl l.length cl) l) (hnl:l.length+200≤1000000000000) (hnn:n<18446744073709551616) (hh:h<18446744073709551616) :
  Calls QP 232 #[.agg #[I J op,I J a,I J b,I O n,I O h,V pl l.length cl,V pb nb cb,V pe ne ce,G ot],I J 24] w (BO w (l.map byI)):=by
 have HX0:=hid (CA.new w #[I J op,I J a,I J b,I O n,I O h,V pl l.length cl,V pb nb cb,V pe ne ce,G ot] 39)
 have HBX:=hid ((QB w.heap.size w).alloc (Ql _) (Qc #[I J op,I J a,I J b,I O n,I O h,V pl l.length cl,V pb nb cb,V pe ne ce,G ot] 39))
 have HRX:=hid ((RF.refl w.heap.size w).alloc (Qc #[I J op,I J a,I J b,I O n,I O h,V pl l.length cl,V pb nb cb,V pe ne ce,G ot] 39))
 obtain ⟨y0,y1,y2,y3,y4,y5,y6,y7,y8⟩:=ca9 HX0.out
 have hLI:∀W,Below B w W→LI B W (V pl l.length cl) l:=fun W hW=>hl.below hW
 have HLI:=fun W (hW:Below w.heap.size w W)=>hid (hLI W (hW.mono hB))
 have Hn:=hid hnn
 have Hh:=hid hh
 have HBB:=hid hB
 have HSZ:Hid (w.heap.size≤w.heap.size):=Ql _
 have HLN:=hid hnl
 have q1:=uI_len a
 have q2:=uI_len b
 have q3:=usL_len l
 have q5:=uI_len l.length
 have HS0:Hid (RF w.heap.size w (w.alloc (Qc #[I J op,I J a,I J b,I O n,I O h,V pl l.length cl,V pb nb cb,V pe ne ce,G ot] 39))∧CA w.heap.size #[I J op,I J a,I J b,I O n,I O h,V pl l.length cl,V pb nb cb,V pe ne ce,G ot] 39 (w.alloc (Qc #[I J op,I J a,I J b,I O n,I O h,V pl l.length cl,V pb nb cb,V pe ne ce,G ot] 39))):=⟨HRX.out,HX0.out⟩
 have HOC:=fun W (hW:Below w.heap.size w W)=>hid (octets_says l _ B W (HLI W hW).out (Qk hB hW.size) (by omega))
 clear q1 q2 q3 q5 hl hnl hnn hh hB hLI
 go_enter Tryz.func232,Tryz.ntmps232
 go_wp2_with (go_at_call 202;(with_reducible refine ((HOC _ HBX.out).out).mono ?_);rintro e w1 ⟨v,rfl,ho,hb⟩;obtain ⟨p1,m1,c1,rfl⟩:=own_slice ho;have HO1:=hid (own_less ho HBX.out.size);have HB1:=Qd HBX hb;clear ho hb)
 go_ret
 exact ⟨_,rfl,HO1.out,HB1.out⟩
theorem beh_5 (K:Int) (hK:K=5∨K=10∨K=20∨K=22) (op a b:Int) (n h:Nat) (l:List Int) (pl pb pe:Option Addr) (cl nb cb ne ce:Nat) (ot:Bool) (B:Nat) (w:World) (hB:B≤w.heap.size) (hl:LI B w (V pl l.length cl) l) (hnl:l.length+200≤1000000000000) (hnn:n<18446744073709551616) (hh:h<18446744073709551616) :
  Calls QP 232 #[.agg #[I J op,I J a,I J b,I O n,I O h,V pl l.length cl,V pb nb cb,V pe ne ce,G ot],I J K] w (BO w (uI a++uI b)):=by
 rcases hK with rfl|rfl|rfl|rfl
 all_goals
  have HX0:=hid (CA.new w #[I J op,I J a,I J b,I O n,I O h,V pl l.length cl,V pb nb cb,V pe ne ce,G ot] 39)
  have HBX:=hid ((QB w.heap.size w).alloc (Ql _) (Qc #[I J op,I J a,I J b,I O n,I O h,V pl l.length cl,V pb nb cb,V pe ne ce,G ot] 39))
  have HRX:=hid ((RF.refl w.heap.size w).alloc (Qc #[I J op,I J a,I J b,I O n,I O h,V pl l.length cl,V pb nb cb,V pe ne ce,G ot] 39))
  obtain ⟨y0,y1,y2,y3,y4,y5,y6,y7,y8⟩:=ca9 HX0.out
  have hLI:∀W,Below B w W→LI B W (V pl l.length cl) l:=fun W hW=>hl.below hW
  have HLI:=fun W (hW:Below w.heap.size w W)=>hid (hLI W (hW.mono hB))
  have Hn:=hid hnn
  have Hh:=hid hh
  have HBB:=hid hB
  have HSZ:Hid (w.heap.size≤w.heap.size):=Ql _
  have HLN:=hid hnl
  have q1:=uI_len a
  have q2:=uI_len b
  have q3:=usL_len l
  have q5:=uI_len l.length
  have HS0:Hid (RF w.heap.size w (w.alloc (Qc #[I J op,I J a,I J b,I O n,I O h,V pl l.length cl,V pb nb cb,V pe ne ce,G ot] 39))∧CA w.heap.size #[I J op,I J a,I J b,I O n,I O h,V pl l.length cl,V pb nb cb,V pe ne ce,G ot] 39 (w.alloc (Qc #[I J op,I J a,I J b,I O n,I O h,V pl l.length cl,V pb nb cb,V pe ne ce,G ot] 39))):=⟨HRX.out,HX0.out⟩
  have HN:=hid (show (uI a).length+(uI b).length≤140737488355000 by omega)
  clear q1 q2 q3 q5 hl hnl hnn hh hB hLI
  go_enter Tryz.func232,Tryz.ntmps232
  go_upto_region 25 with fail
  have hS:RF w.heap.size w (w.alloc (Qc #[I J op,I J a,I J b,I O n,I O h,V pl l.length cl,V pb nb cb,V pe ne ce,G ot] 39)).drew∧CA w.heap.size #[I J op,I J a,I J b,I O n,I O h,V pl l.length cl,V pb nb cb,V pe ne ce,G ot] 39 (w.alloc (Qc #[I J op,I J a,I J b,I O n,I O h,V pl l.length cl,V pb nb cb,V pe ne ce,G ot] 39)).drew:=⟨HS0.out.1.drew,HS0.out.2⟩
  clear HS0
  refine wp_region_held_drew (S:=fun W=>RF w.heap.size w W∧CA w.heap.size #[I J op,I J a,I J b,I O n,I O h,V pl l.length cl,V pb nb cb,V pe ne ce,G ot] 39 W) (by kernel_rfl) hS (fun _=>?_)
  generalize (w.alloc (Qc #[I J op,I J a,I J b,I O n,I O h,V pl l.length cl,V pb nb cb,V pe ne ce,G ot] 39)).drew=W at *
  refine zt 0 (Qp (some ⟨w.heap.size,1,none⟩)) rfl ?_ ?_
  ·(intro W hSw;obtain ⟨x0,x1,x2,x3,x4,x5,x6,x7,x8⟩:=ca9 hSw.2;go_simp;try (with_reducible rfl))
  try simp only[Qu,sl2,sl0,sl1]
  refine zt 1 (I J a) rfl ?_ ?_
  ·(intro W hSw;obtain ⟨x0,x1,x2,x3,x4,x5,x6,x7,x8⟩:=ca9 hSw.2;go_simp;try (with_reducible rfl))
  try simp only[Qu,sl2,sl0,sl1]
  refine zt 3 (Qp (some ⟨w.heap.size,2,none⟩)) rfl ?_ ?_
  ·(intro W hSw;obtain ⟨x0,x1,x2,x3,x4,x5,x6,x7,x8⟩:=ca9 hSw.2;go_simp;try (with_reducible rfl))
  try simp only[Qu,sl2,sl0,sl1]
  refine zt 4 (I J b) rfl ?_ ?_
  ·(intro W hSw;obtain ⟨x0,x1,x2,x3,x4,x5,x6,x7,x8⟩:=ca9 hSw.2;go_simp;try (with_reducible rfl))
  try simp only[Qu,sl2,sl0,sl1]
  refine zr 2 rfl (fun K hK=>?_)
  go_simp
  go_at_call 133
  (with_reducible refine (RU_says a W).mono ?_)
  rintro e W1 ⟨v,rfl,ho,hb⟩
  obtain ⟨p1,m1,c1,rfl⟩:=own_slice ho
  have HO1:=hid (own_less ho (Qk HSZ.out hS.1.size))
  replace hS:=And.intro (hS.1.trans (RF.of hb)) (hS.2.below hb hS.2.lt)
  clear ho hb
  refine hK.out _ _ hS (fun _=>?_)
  clear hK K
  try simp only[Qu,sl2,sl0,sl1]
  refine zr 5 rfl (fun K hK=>?_)
  go_simp
  go_at_call 133
  (with_reducible refine (RU_says b W1).mono ?_)
  rintro e W2 ⟨v,rfl,ho,hb⟩
  obtain ⟨p2,m2,c2,rfl⟩:=own_slice ho
  have HO2:=hid (own_less ho (Qk HSZ.out hS.1.size))
  replace HO1:=hid (own_kept HO1.out hb)
  replace hS:=And.intro (hS.1.trans (RF.of hb)) (hS.2.below hb hS.2.lt)
  clear ho hb
  refine hK.out _ _ hS (fun _=>?_)
  clear hK K
  try simp only[Qu,sl2,sl0,sl1]
  refine zr 6 rfl (fun K hK=>?_)
  refine append_rowS rfl (.tmp 77) (.tmp 80) rfl w.heap.size _ _ _ _ _ w HO1.out HO2.out HN.out (Ql _) hS.1 rfl rfl ?_
  intro p3 m3 c3 W3 ho3 hr
  replace hS:=And.intro (hS.1.trans hr) (hS.2.rf hr (by decide))
  have HO3:=hid ho3
  clear ho3 hr HO1 HO2
  refine hK.out _ _ hS (fun _=>?_)
  clear hK K
  try simp only[Qu,sl2,sl0,sl1]
  refine zt 7 (V p3 m3 c3) rfl ?_ ?_
  ·(intro W hSw;obtain ⟨x0,x1,x2,x3,x4,x5,x6,x7,x8⟩:=ca9 hSw.2;go_simp;try (with_reducible rfl))
  try simp only[Qu,sl2,sl0,sl1]
  refine wpAnyH_done (by kernel_rfl) ?_ _
  have HF:=hid hS.1
  clear hS
  go_wp2
  go_ret
  exact ⟨_,rfl,HO3.out,HF.out.below (Ql _)⟩
theorem beh_23 (op a b:Int) (n h:Nat) (l:List Int) (pl pb pe:Option Addr) (cl nb cb ne ce:Nat) (ot:Bool) (B:Nat) (w:World) (hB:B≤w.heap.size) (hl:LI B w (V pl l.length cl) l) (hnl:l.length+200≤1000000000000) (hnn:n<18446744073709551616) (hh:h<18446744073709551616) :
  Calls QP 232 #[.agg #[I J op,I J a,I J b,I O n,I O h,V pl l.length cl,V pb nb cb,V pe ne ce,G ot],I J 23] w (BO w (lowL 8 n++lowL 8 h)):=by
 have HX0:=hid (CA.new w #[I J op,I J a,I J b,I O n,I O h,V pl l.length cl,V pb nb cb,V pe ne ce,G ot] 39)
 have HBX:=hid ((QB w.heap.size w).alloc (Ql _) (Qc #[I J op,I J a,I J b,I O n,I O h,V pl l.length cl,V pb nb cb,V pe ne ce,G ot] 39))
 have HRX:=hid ((RF.refl w.heap.size w).alloc (Qc #[I J op,I J a,I J b,I O n,I O h,V pl l.length cl,V pb nb cb,V pe ne ce,G ot] 39))
 obtain ⟨y0,y1,y2,y3,y4,y5,y6,y7,y8⟩:=ca9 HX0.out
 have hLI:∀W,Below B w W→LI B W (V pl l.length cl) l:=fun W hW=>hl.below hW
 have HLI:=fun W (hW:Below w.heap.size w W)=>hid (hLI W (hW.mono hB))
 have Hn:=hid hnn
 have Hh:=hid hh
 have HBB:=hid hB
 have HSZ:Hid (w.heap.size≤w.heap.size):=Ql _
 have HLN:=hid hnl
 have q1:=uI_len a
 have q2:=uI_len b
 have q3:=usL_len l
 have q5:=uI_len l.length
 have HS0:Hid (RF w.heap.size w (w.alloc (Qc #[I J op,I J a,I J b,I O n,I O h,V pl l.length cl,V pb nb cb,V pe ne ce,G ot] 39))∧CA w.heap.size #[I J op,I J a,I J b,I O n,I O h,V pl l.length cl,V pb nb cb,V pe ne ce,G ot] 39 (w.alloc (Qc #[I J op,I J a,I J b,I O n,I O h,V pl l.length cl,V pb nb cb,V pe ne ce,G ot] 39))):=⟨HRX.out,HX0.out⟩
 have HN:=hid (show (lowL 8 n).length+(lowL 8 h).length≤140737488355000 by rw[lowL_len 0 8 n,lowL_len 0 8 h];omega)
 clear q1 q2 q3 q5 hl hnl hnn hh hB hLI
 go_enter Tryz.func232,Tryz.ntmps232
 go_upto_region 45 with fail
 have hS:RF w.heap.size w (w.alloc (Qc #[I J op,I J a,I J b,I O n,I O h,V pl l.length cl,V pb nb cb,V pe ne ce,G ot] 39)).drew∧CA w.heap.size #[I J op,I J a,I J b,I O n,I O h,V pl l.length cl,V pb nb cb,V pe ne ce,G ot] 39 (w.alloc (Qc #[I J op,I J a,I J b,I O n,I O h,V pl l.length cl,V pb nb cb,V pe ne ce,G ot] 39)).drew:=⟨HS0.out.1.drew,HS0.out.2⟩
 clear HS0
 refine wp_region_held_drew (S:=fun W=>RF w.heap.size w W∧CA w.heap.size #[I J op,I J a,I J b,I O n,I O h,V pl l.length cl,V pb nb cb,V pe ne ce,G ot] 39 W) (by kernel_rfl) hS (fun _=>?_)
 generalize (w.alloc (Qc #[I J op,I J a,I J b,I O n,I O h,V pl l.length cl,V pb nb cb,V pe ne ce,G ot] 39)).drew=W at *
 refine zt 0 (Qp (some ⟨w.heap.size,3,none⟩)) rfl ?_ ?_
 ·(intro W hSw;obtain ⟨x0,x1,x2,x3,x4,x5,x6,x7,x8⟩:=ca9 hSw.2;go_simp;try (with_reducible rfl))
 try simp only[Qu,sl2,sl0,sl1]
 refine zt 1 (I O n) rfl ?_ ?_
 ·(intro W hSw;obtain ⟨x0,x1,x2,x3,x4,x5,x6,x7,x8⟩:=ca9 hSw.2;go_simp;try (with_reducible rfl))
 try simp only[Qu,sl2,sl0,sl1]
 refine zt 3 (Qp (some ⟨w.heap.size,4,none⟩)) rfl ?_ ?_
 ·(intro W hSw;obtain ⟨x0,x1,x2,x3,x4,x5,x6,x7,x8⟩:=ca9 hSw.2;go_simp;try (with_reducible rfl))
 try simp only[Qu,sl2,sl0,sl1]
 refine zt 4 (I O h) rfl ?_ ?_
 ·(intro W hSw;obtain ⟨x0,x1,x2,x3,x4,x5,x6,x7,x8⟩:=ca9 hSw.2;go_simp;try (with_reducible rfl))
 try simp only[Qu,sl2,sl0,sl1]
 refine zr 2 rfl (fun K hK=>?_)
 go_simp
 go_at_call 248
 (with_reducible refine (low_8 n Hn.out W).mono ?_)
 rintro e W1 ⟨v,rfl,ho,hb⟩
 obtain ⟨p1,m1,c1,rfl⟩:=own_slice ho
 have HO1:=hid (own_less ho (Qk HSZ.out hS.1.size))
 replace hS:=And.intro (hS.1.trans (RF.of hb)) (hS.2.below hb hS.2.lt)
 clear ho hb
 refine hK.out _ _ hS (fun _=>?_)
 clear hK K
 try simp only[Qu,sl2,sl0,sl1]
 refine zr 5 rfl (fun K hK=>?_)
 go_simp
 go_at_call 248
 (with_reducible refine (low_8 h Hh.out W1).mono ?_)
 rintro e W2 ⟨v,rfl,ho,hb⟩
 obtain ⟨p2,m2,c2,rfl⟩:=own_slice ho
 have HO2:=hid (own_less ho (Qk HSZ.out hS.1.size))
 replace HO1:=hid (own_kept HO1.out hb)
 replace hS:=And.intro (hS.1.trans (RF.of hb)) (hS.2.below hb hS.2.lt)
 clear ho hb
 refine hK.out _ _ hS (fun _=>?_)
 clear hK K
 try simp only[Qu,sl2,sl0,sl1]
 refine zr 6 rfl (fun K hK=>?_)
 refine append_rowS rfl (.tmp 143) (.tmp 146) rfl w.heap.size _ _ _ _ _ w HO1.out HO2.out HN.out (Ql _) hS.1 rfl rfl ?_
 intro p3 m3 c3 W3 ho3 hr
 replace hS:=And.intro (hS.1.trans hr) (hS.2.rf hr (by decide))
 have HO3:=hid ho3
 clear ho3 hr HO1 HO2
 refine hK.out _ _ hS (fun _=>?_)
 clear hK K
 try simp only[Qu,sl2,sl0,sl1]
 refine zt 7 (V p3 m3 c3) rfl ?_ ?_
 ·(intro W hSw;obtain ⟨x0,x1,x2,x3,x4,x5,x6,x7,x8⟩:=ca9 hSw.2;go_simp;try (with_reducible rfl))
 try simp only[Qu,sl2,sl0,sl1]
 refine wpAnyH_done (by kernel_rfl) ?_ _
 have HF:=hid hS.1
 clear hS
 go_wp2
 go_ret
 exact ⟨_,rfl,HO3.out,HF.out.below (Ql _)⟩
theorem beh_26 (op a b:Int) (n h:Nat) (l:List Int) (pl pb pe:Option Addr) (cl nb cb ne ce:Nat) (ot:Bool) (B:Nat) (w:World) (hB:B≤w.heap.size) (hl:LI B w (V pl l.length cl) l) (hnl:l.length+200≤1000000000000) (hnn:n<18446744073709551616) (hh:h<18446744073709551616) :
  Calls QP 232 #[.agg #[I J op,I J a,I J b,I O n,I O h,V pl l.length cl,V pb nb cb,V pe ne ce,G ot],I J 26] w (BO w (uI a++uI b++l.map byI)):=by
 have HX0:=hid (CA.new w #[I J op,I J a,I J b,I O n,I O h,V pl l.length cl,V pb nb cb,V pe ne ce,G ot] 39)
 have HBX:=hid ((QB w.heap.size w).alloc (Ql _) (Qc #[I J op,I J a,I J b,I O n,I O h,V pl l.length cl,V pb nb cb,V pe ne ce,G ot] 39))
 have HRX:=hid ((RF.refl w.heap.size w).alloc (Qc #[I J op,I J a,I J b,I O n,I O h,V pl l.length cl,V pb nb cb,V pe ne ce,G ot] 39))
 obtain ⟨y0,y1,y2,y3,y4,y5,y6,y7,y8⟩:=ca9 HX0.out
 have hLI:∀W,Below B w W→LI B W (V pl l.length cl) l:=fun W hW=>hl.below hW
 have HLI:=fun W (hW:Below w.heap.size w W)=>hid (hLI W (hW.mono hB))
 have Hn:=hid hnn
 have Hh:=hid hh
 have HBB:=hid hB
 have HSZ:Hid (w.heap.size≤w.heap.size):=Ql _
 have HLN:=hid hnl
 have q1:=uI_len a
 have q2:=uI_len b
 have q3:=usL_len l
 have q5:=uI_len l.length
 have HS0:Hid (RF w.heap.size w (w.alloc (Qc #[I J op,I J a,I J b,I O n,I O h,V pl l.length cl,V pb nb cb,V pe ne ce,G ot] 39))∧CA w.heap.size #[I J op,I J a,I J b,I O n,I O h,V pl l.length cl,V pb nb cb,V pe ne ce,G ot] 39 (w.alloc (Qc #[I J op,I J a,I J b,I O n,I O h,V pl l.length cl,V pb nb cb,V pe ne ce,G ot] 39))):=⟨HRX.out,HX0.out⟩
 have HN:=hid (show (uI a).length+(uI b).length≤140737488355000 by omega)
 have HN2:=hid (show (uI a++uI b).length+(l.map byI).length≤140737488355000 by simp only[QA,QM];omega)
 have HOC:=fun W (hW:Below w.heap.size w W)=>hid (octets_says l _ B W (HLI W hW).out (Qk hB hW.size) (by omega))
 clear q1 q2 q3 q5 hl hnl hnn hh hB hLI
 go_enter Tryz.func232,Tryz.ntmps232
 go_upto_region 27 with fail
 have hS:RF w.heap.size w (w.alloc (Qc #[I J op,I J a,I J b,I O n,I O h,V pl l.length cl,V pb nb cb,V pe ne ce,G ot] 39)).drew∧CA w.heap.size #[I J op,I J a,I J b,I O n,I O h,V pl l.length cl,V pb nb cb,V pe ne ce,G ot] 39 (w.alloc (Qc #[I J op,I J a,I J b,I O n,I O h,V pl l.length cl,V pb nb cb,V pe ne ce,G ot] 39)).drew:=⟨HS0.out.1.drew,HS0.out.2⟩
 clear HS0
 refine wp_region_held_drew (S:=fun W=>RF w.heap.size w W∧CA w.heap.size #[I J op,I J a,I J b,I O n,I O h,V pl l.length cl,V pb nb cb,V pe ne ce,G ot] 39 W) (by kernel_rfl) hS (fun _=>?_)
 generalize (w.alloc (Qc #[I J op,I J a,I J b,I O n,I O h,V pl l.length cl,V pb nb cb,V pe ne ce,G ot] 39)).drew=W at *
 refine zt 0 (Qp (some ⟨w.heap.size,1,none⟩)) rfl ?_ ?_
 ·(intro W hSw;obtain ⟨x0,x1,x2,x3,x4,x5,x6,x7,x8⟩:=ca9 hSw.2;go_simp;try (with_reducible rfl))
 try simp only[Qu,sl2,sl0,sl1]
 refine zt 1 (I J a) rfl ?_ ?_
 ·(intro W hSw;obtain ⟨x0,x1,x2,x3,x4,x5,x6,x7,x8⟩:=ca9 hSw.2;go_simp;try (with_reducible rfl))
 try simp only[Qu,sl2,sl0,sl1]
 refine zt 3 (Qp (some ⟨w.heap.size,2,none⟩)) rfl ?_ ?_
 ·(intro W hSw;obtain ⟨x0,x1,x2,x3,x4,x5,x6,x7,x8⟩:=ca9 hSw.2;go_simp;try (with_reducible rfl))
 try simp only[Qu,sl2,sl0,sl1]
 refine zt 4 (I J b) rfl ?_ ?_
 ·(intro W hSw;obtain ⟨x0,x1,x2,x3,x4,x5,x6,x7,x8⟩:=ca9 hSw.2;go_simp;try (with_reducible rfl))
 try simp only[Qu,sl2,sl0,sl1]
 refine zt 7 (Qp (some ⟨w.heap.size,5,none⟩)) rfl ?_ ?_
 ·(intro W hSw;obtain ⟨x0,x1,x2,x3,x4,x5,x6,x7,x8⟩:=ca9 hSw.2;go_simp;try (with_reducible rfl))
 try simp only[Qu,sl2,sl0,sl1]
 refine zt 8 (V pl l.length cl) rfl ?_ ?_
 ·(intro W hSw;obtain ⟨x0,x1,x2,x3,x4,x5,x6,x7,x8⟩:=ca9 hSw.2;go_simp;try (with_reducible rfl))
 try simp only[Qu,sl2,sl0,sl1]
 refine zr 2 rfl (fun K hK=>?_)
 go_simp
 go_at_call 133
 (with_reducible refine (RU_says a W).mono ?_)
 rintro e W1 ⟨v,rfl,ho,hb⟩
 obtain ⟨p1,m1,c1,rfl⟩:=own_slice ho
 have HO1:=hid (own_less ho (Qk HSZ.out hS.1.size))
 replace hS:=And.intro (hS.1.trans (RF.of hb)) (hS.2.below hb hS.2.lt)
 clear ho hb
 refine hK.out _ _ hS (fun _=>?_)
 clear hK K
 try simp only[Qu,sl2,sl0,sl1]
 refine zr 5 rfl (fun K hK=>?_)
 go_simp
 go_at_call 133
 (with_reducible refine (RU_says b W1).mono ?_)
 rintro e W2 ⟨v,rfl,ho,hb⟩
 obtain ⟨p2,m2,c2,rfl⟩:=own_slice ho
 have HO2:=hid (own_less ho (Qk HSZ.out hS.1.size))
 replace HO1:=hid (own_kept HO1.out hb)
 replace hS:=And.intro (hS.1.trans (RF.of hb)) (hS.2.below hb hS.2.lt)
 clear ho hb
 refine hK.out _ _ hS (fun _=>?_)
 clear hK K
 try simp only[Qu,sl2,sl0,sl1]
 refine zr 6 rfl (fun K hK=>?_)
 refine append_rowS rfl (.tmp 86) (.tmp 89) rfl w.heap.size _ _ _ _ _ w HO1.out HO2.out HN.out (Ql _) hS.1 rfl rfl ?_
 intro p3 m3 c3 W3 ho3 hr
 replace hS:=And.intro (hS.1.trans hr) (hS.2.rf hr (by decide))
 have HO3:=hid ho3
 clear ho3 hr HO1 HO2
 refine hK.out _ _ hS (fun _=>?_)
 clear hK K
 try simp only[Qu,sl2,sl0,sl1]
 refine zr 9 rfl (fun K hK=>?_)
 go_simp
 go_at_call 202
 (with_reducible refine ((HOC W3 (hS.1.below (Ql _))).out).mono ?_)
 rintro e W4 ⟨v,rfl,ho,hb⟩
 obtain ⟨p4,m4,c4,rfl⟩:=own_slice ho
 have HO4:=hid (own_less ho (Qk HSZ.out hS.1.size))
 replace HO3:=hid (own_kept HO3.out hb)
 replace hS:=And.intro (hS.1.trans (RF.of hb)) (hS.2.below hb hS.2.lt)
 clear ho hb
 refine hK.out _ _ hS (fun _=>?_)
 clear hK K
 try simp only[Qu,sl2,sl0,sl1]
 refine zr 10 rfl (fun K hK=>?_)
 refine append_rowS rfl (.tmp 90) (.tmp 93) rfl w.heap.size _ _ _ _ _ w HO3.out HO4.out HN2.out (Ql _) hS.1 rfl rfl ?_
 intro p5 m5 c5 W5 ho3 hr
 replace hS:=And.intro (hS.1.trans hr) (hS.2.rf hr (by decide))
 have HO5:=hid ho3
 clear ho3 hr HO3 HO4
 refine hK.out _ _ hS (fun _=>?_)
 clear hK K
 try simp only[Qu,sl2,sl0,sl1]
 refine zt 11 (V p5 m5 c5) rfl ?_ ?_
 ·(intro W hSw;obtain ⟨x0,x1,x2,x3,x4,x5,x6,x7,x8⟩:=ca9 hSw.2;go_simp;try (with_reducible rfl))
 try simp only[Qu,sl2,sl0,sl1]
 refine wpAnyH_done (by kernel_rfl) ?_ _
 have HF:=hid hS.1
 clear hS
 go_wp2
 go_ret
 exact ⟨_,rfl,HO5.out,HF.out.below (Ql _)⟩
theorem beh_6 (op a b:Int) (n h:Nat) (l:List Int) (pl pb pe:Option Addr) (cl nb cb ne ce:Nat) (ot:Bool) (B:Nat) (w:World) (hB:B≤w.heap.size) (hl:LI B w (V pl l.length cl) l) (hnl:l.length+200≤1000000000000) (hnn:n<18446744073709551616) (hh:h<18446744073709551616) :
  Calls QP 232 #[.agg #[I J op,I J a,I J b,I O n,I O h,V pl l.length cl,V pb nb cb,V pe ne ce,G ot],I J 6] w (BO w (uI l.length++l.map byI)):=by
 have HX0:=hid (CA.new w #[I J op,I J a,I J b,I O n,I O h,V pl l.length cl,V pb nb cb,V pe ne ce,G ot] 39)
 have HBX:=hid ((QB w.heap.size w).alloc (Ql _) (Qc #[I J op,I J a,I J b,I O n,I O h,V pl l.length cl,V pb nb cb,V pe ne ce,G ot] 39))
 have HRX:=hid ((RF.refl w.heap.size w).alloc (Qc #[I J op,I J a,I J b,I O n,I O h,V pl l.length cl,V pb nb cb,V pe ne ce,G ot] 39))
 obtain ⟨y0,y1,y2,y3,y4,y5,y6,y7,y8⟩:=ca9 HX0.out
 have hLI:∀W,Below B w W→LI B W (V pl l.length cl) l:=fun W hW=>hl.below hW
 have HLI:=fun W (hW:Below w.heap.size w W)=>hid (hLI W (hW.mono hB))
 have Hn:=hid hnn
 have Hh:=hid hh
 have HBB:=hid hB
 have HSZ:Hid (w.heap.size≤w.heap.size):=Ql _
 have HLN:=hid hnl
 have q1:=uI_len a
 have q2:=uI_len b
 have q3:=usL_len l
 have q5:=uI_len l.length
 have HS0:Hid (RF w.heap.size w (w.alloc (Qc #[I J op,I J a,I J b,I O n,I O h,V pl l.length cl,V pb nb cb,V pe ne ce,G ot] 39))∧CA w.heap.size #[I J op,I J a,I J b,I O n,I O h,V pl l.length cl,V pb nb cb,V pe ne ce,G ot] 39 (w.alloc (Qc #[I J op,I J a,I J b,I O n,I O h,V pl l.length cl,V pb nb cb,V pe ne ce,G ot] 39))):=⟨HRX.out,HX0.out⟩
 have HN:=hid (show (l.map byI).length+20≤140737488355000 by simp only[QM];omega)
 have HOC:=fun W (hW:Below w.heap.size w W)=>hid (octets_says l _ B W (HLI W hW).out (Qk hB hW.size) (by omega))
 clear q1 q2 q3 q5 hl hnl hnn hh hB hLI
 go_enter Tryz.func232,Tryz.ntmps232
 go_upto_region 29 with fail
 have hS:RF w.heap.size w (w.alloc (Qc #[I J op,I J a,I J b,I O n,I O h,V pl l.length cl,V pb nb cb,V pe ne ce,G ot] 39)).drew∧CA w.heap.size #[I J op,I J a,I J b,I O n,I O h,V pl l.length cl,V pb nb cb,V pe ne ce,G ot] 39 (w.alloc (Qc #[I J op,I J a,I J b,I O n,I O h,V pl l.length cl,V pb nb cb,V pe ne ce,G ot] 39)).drew:=⟨HS0.out.1.drew,HS0.out.2⟩
 clear HS0
 refine wp_region_held_drew (S:=fun W=>RF w.heap.size w W∧CA w.heap.size #[I J op,I J a,I J b,I O n,I O h,V pl l.length cl,V pb nb cb,V pe ne ce,G ot] 39 W) (by kernel_rfl) hS (fun _=>?_)
 generalize (w.alloc (Qc #[I J op,I J a,I J b,I O n,I O h,V pl l.length cl,V pb nb cb,V pe ne ce,G ot] 39)).drew=W at *
 refine zt 0 (Qp (some ⟨w.heap.size,5,none⟩)) rfl ?_ ?_
 ·(intro W hSw;obtain ⟨x0,x1,x2,x3,x4,x5,x6,x7,x8⟩:=ca9 hSw.2;go_simp;try (with_reducible rfl))
 try simp only[Qu,sl2,sl0,sl1]
 refine zt 1 (V pl l.length cl) rfl ?_ ?_
 ·(intro W hSw;obtain ⟨x0,x1,x2,x3,x4,x5,x6,x7,x8⟩:=ca9 hSw.2;go_simp;try (with_reducible rfl))
 try simp only[Qu,sl2,sl0,sl1]
 refine zt 2 (I J l.length) rfl ?_ ?_
 ·(intro W hSw;obtain ⟨x0,x1,x2,x3,x4,x5,x6,x7,x8⟩:=ca9 hSw.2;go_simp;try (with_reducible rfl))
 try simp only[Qu,sl2,sl0,sl1]
 refine zt 3 (Qp (some ⟨w.heap.size,5,none⟩)) rfl ?_ ?_
 ·(intro W hSw;obtain ⟨x0,x1,x2,x3,x4,x5,x6,x7,x8⟩:=ca9 hSw.2;go_simp;try (with_reducible rfl))
 try simp only[Qu,sl2,sl0,sl1]
 refine zt 4 (V pl l.length cl) rfl ?_ ?_
 ·(intro W hSw;obtain ⟨x0,x1,x2,x3,x4,x5,x6,x7,x8⟩:=ca9 hSw.2;go_simp;try (with_reducible rfl))
 try simp only[Qu,sl2,sl0,sl1]
 refine zr 5 rfl (fun K hK=>?_)
 go_simp
 go_at_call 202
 (with_reducible refine ((HOC W (hS.1.below (Ql _))).out).mono ?_)
 rintro e W1 ⟨v,rfl,ho,hb⟩
 obtain ⟨p1,m1,c1,rfl⟩:=own_slice ho
 have HO1:=hid (own_less ho (Qk HSZ.out hS.1.size))
 replace hS:=And.intro (hS.1.trans (RF.of hb)) (hS.2.below hb hS.2.lt)
 clear ho hb
 refine hK.out _ _ hS (fun _=>?_)
 clear hK K
 try simp only[Qu,sl2,sl0,sl1]
 refine zr 6 rfl (fun K hK=>?_)
 go_simp
 go_at_call 135
 (with_reducible refine (listed_says l.length _ (l.map byI) w.heap.size W1 HO1.out HN.out).mono ?_)
 rintro e W2 ⟨v,rfl,ho,hb⟩
 obtain ⟨p2,m2,c2,rfl⟩:=own_slice ho
 have HO2:=hid (own_less ho (Qk HSZ.out hS.1.size))
 replace hS:=And.intro (hS.1.trans (RF.of hb)) (hS.2.below hb hS.2.lt)
 clear ho hb
 refine hK.out _ _ hS (fun _=>?_)
 clear hK K
 try simp only[Qu,sl2,sl0,sl1]
 refine zt 7 (V p2 m2 c2) rfl ?_ ?_
 ·(intro W hSw;obtain ⟨x0,x1,x2,x3,x4,x5,x6,x7,x8⟩:=ca9 hSw.2;go_simp;try (with_reducible rfl))
 try simp only[Qu,sl2,sl0,sl1]
 refine wpAnyH_done (by kernel_rfl) ?_ _
 have HF:=hid hS.1
 clear hS
 go_wp2
 go_ret
 exact ⟨_,rfl,HO2.out,HF.out.below (Ql _)⟩
theorem beh_3 (op a b:Int) (n h:Nat) (l:List Int) (pl pb pe:Option Addr) (cl nb cb ne ce:Nat) (ot:Bool) (B:Nat) (w:World) (hB:B≤w.heap.size) (hl:LI B w (V pl l.length cl) l) (hnl:l.length+200≤1000000000000) (hnn:n<18446744073709551616) (hh:h<18446744073709551616) :
  Calls QP 232 #[.agg #[I J op,I J a,I J b,I O n,I O h,V pl l.length cl,V pb nb cb,V pe ne ce,G ot],I J 3] w (BO w (uI l.length++usL l++uI a)):=by
 have HX0:=hid (CA.new w #[I J op,I J a,I J b,I O n,I O h,V pl l.length cl,V pb nb cb,V pe ne ce,G ot] 39)
 have HBX:=hid ((QB w.heap.size w).alloc (Ql _) (Qc #[I J op,I J a,I J b,I O n,I O h,V pl l.length cl,V pb nb cb,V pe ne ce,G ot] 39))
 have HRX:=hid ((RF.refl w.heap.size w).alloc (Qc #[I J op,I J a,I J b,I O n,I O h,V pl l.length cl,V pb nb cb,V pe ne ce,G ot] 39))
 obtain ⟨y0,y1,y2,y3,y4,y5,y6,y7,y8⟩:=ca9 HX0.out
 have hLI:∀W,Below B w W→LI B W (V pl l.length cl) l:=fun W hW=>hl.below hW
 have HLI:=fun W (hW:Below w.heap.size w W)=>hid (hLI W (hW.mono hB))
 have Hn:=hid hnn
 have Hh:=hid hh
 have HBB:=hid hB
 have HSZ:Hid (w.heap.size≤w.heap.size):=Ql _
 have HLN:=hid hnl
 have q1:=uI_len a
 have q2:=uI_len b
 have q3:=usL_len l
 have q5:=uI_len l.length
 have HS0:Hid (RF w.heap.size w (w.alloc (Qc #[I J op,I J a,I J b,I O n,I O h,V pl l.length cl,V pb nb cb,V pe ne ce,G ot] 39))∧CA w.heap.size #[I J op,I J a,I J b,I O n,I O h,V pl l.length cl,V pb nb cb,V pe ne ce,G ot] 39 (w.alloc (Qc #[I J op,I J a,I J b,I O n,I O h,V pl l.length cl,V pb nb cb,V pe ne ce,G ot] 39))):=⟨HRX.out,HX0.out⟩
 have HN3:=hid (show (usL l).length+20≤140737488355000 by omega)
 have HN4:=hid (show (uI l.length++usL l).length+(uI a).length≤140737488355000 by simp only[QA];omega)
 obtain ⟨N,hN⟩:∃N,N=l.length:=⟨_,rfl⟩
 have HNN:=hid hN
 have hn62:(N:Int)<9223372036854775807:=by omega
 clear q1 q2 q3 q5 hl hnl hnn hh hB hLI
 go_enter Tryz.func232,Tryz.ntmps232
 go_wp2
 go_loopw [6,7] (fun vo vi wr=>∃(i:Nat) (p:Option Addr) (m c:Nat),i≤l.length∧vi=I J i∧vo=V p m c∧Hid (wr.ownsRow w.heap.size 5 1 (V p m c) (usL (l.take i)).length (QY (usL (l.take i))))∧Hid (RF w.heap.size w wr∧CA w.heap.size #[I J op,I J a,I J b,I O n,I O h,V pl l.length cl,V pb nb cb,V pe ne ce,G ot] 39 wr)) (fun _ vi _=>l.length-(intOf vi).toNat)
 case atStart=>exact ⟨0,none,0,0,Nat.zero_le _,rfl,rfl,own_nil _ _,HS0⟩
 clear y0 y1 y2 y3 y4 y5 y6 y7 y8 HX0 HBX HRX HS0
 obtain ⟨i,p0,m0,c0,hi,rfl,rfl,HR,HF⟩:=hrel
 obtain ⟨y0,y1,y2,y3,y4,y5,y6,y7,y8⟩:=ca9 HF.out.2
 have hn62:(l.length:Int)<9223372036854775807:=by have:=HLN.out;omega
 by_cases hlt:i<l.length
 ·obtain ⟨x,hx⟩:∃x,l[i]?=some x:=⟨l[i],List.getElem?_eq_getElem hlt⟩
  obtain ⟨p',c',e,_,hcc⟩:=(HLI _ (HF.out.1.below (Ql _))).out
  obtain ⟨k,o,hpk,hk,hcell⟩:=hcc (by intro e;rw[e]at hlt;simp at hlt)
  injection e with e1 e2 e3
  rw[hpk]at e1
  subst e1
  have z0:=hcell i x hx
  have HX:=hid (show usL (l.take (i+1))=usL (l.take i)++uI x by rw[List.take_add_one,hx];exact usL_snoc _ _)
  have HLE:Hid ((usL (l.take i)).length+(uI x).length≤140737488355000):=by
   have h1:=HLN.out
   have h2:=usL_len (l.take i)
   have h3:=uI_len x
   simp only[List.length_take]at h2
   simp only[Hid]
   omega
  clear hcell hx hk e2 e3 hpk hcc
  go_wp2_with (first
   |(go_at_call 133;(with_reducible refine (RU_says x _).mono ?_);rintro e w1 ⟨v,rfl,ho,hb⟩;obtain ⟨p1,m1,c1,rfl⟩:=own_slice ho;have HO1:=hid ho;have HR1:=hid (own_kept HR.out hb);have HB1:=hid (HF.out.1.trans (RF.of hb));have HX1:=hid (HF.out.2.below hb HF.out.2.lt);clear ho hb)
   |(at_builtin;refine append_rowW rfl _ _ rfl w.heap.size _ _ _ _ _ w1 HR1.out HO1.out HLE.out HB1.out.size (RF.refl _ _) rfl rfl ?_;intro p3 m3 c3 w3 ho3 hf3;have HO3:=hid ho3;have HF3:=hid (HB1.out.trans hf3);have HX3:=hid (HX1.out.rf hf3 (by decide));clear ho3 hf3))
  go_roundw
  case rel =>
   refine ⟨i+1,p3,m3,c3,hlt,by go_num,rfl,?_,HF3.out,?_⟩
   ·rw[HX.out]
    exact HO3
   exact HX3.out
  case measure=>simp[intOf];omega
 obtain rfl:i=l.length:=by omega
 have HE:=hid (show usL (l.take l.length)=usL l by rw[List.take_length])
 rw[HE.out]at HR
 have HO0:=HR
 have HS0:=HF
 clear HR HF HE
 go_upto_region 20 with fail
 have hS:RF w.heap.size w wr.drew∧CA w.heap.size #[I J op,I J a,I J b,I O n,I O h,V pl l.length cl,V pb nb cb,V pe ne ce,G ot] 39 wr.drew:=⟨HS0.out.1.drew,HS0.out.2⟩
 replace HO0:Hid (wr.drew.ownsRow w.heap.size 5 1 (V p0 m0 c0) (usL l).length (QY (usL l))):=HO0
 clear HS0
 refine wp_region_held_drew (S:=fun W=>RF w.heap.size w W∧CA w.heap.size #[I J op,I J a,I J b,I O n,I O h,V pl l.length cl,V pb nb cb,V pe ne ce,G ot] 39 W) (by kernel_rfl) hS (fun _=>?_)
 generalize wr.drew=W at *
 refine zt 0 (Qp (some ⟨w.heap.size,5,none⟩)) rfl ?_ ?_
 ·(intro W hSw;obtain ⟨x0,x1,x2,x3,x4,x5,x6,x7,x8⟩:=ca9 hSw.2;go_simp;try (with_reducible rfl))
 try simp only[Qu,sl2,sl0,sl1]
 refine zt 1 (V pl l.length cl) rfl ?_ ?_
 ·(intro W hSw;obtain ⟨x0,x1,x2,x3,x4,x5,x6,x7,x8⟩:=ca9 hSw.2;go_simp;try (with_reducible rfl))
 try simp only[Qu,sl2,sl0,sl1]
 refine zt 2 (I J l.length) rfl ?_ ?_
 ·(intro W hSw;obtain ⟨x0,x1,x2,x3,x4,x5,x6,x7,x8⟩:=ca9 hSw.2;go_simp;try (with_reducible rfl))
 try simp only[Qu,sl2,sl0,sl1]
 refine zt 3 (V p0 m0 c0) rfl ?_ ?_
 ·(intro W hSw;obtain ⟨x0,x1,x2,x3,x4,x5,x6,x7,x8⟩:=ca9 hSw.2;go_simp;try (with_reducible rfl))
 try simp only[Qu,sl2,sl0,sl1]
 refine zt 5 (Qp (some ⟨w.heap.size,1,none⟩)) rfl ?_ ?_
 ·(intro W hSw;obtain ⟨x0,x1,x2,x3,x4,x5,x6,x7,x8⟩:=ca9 hSw.2;go_simp;try (with_reducible rfl))
 try simp only[Qu,sl2,sl0,sl1]
 refine zt 6 (I J a) rfl ?_ ?_
 ·(intro W hSw;obtain ⟨x0,x1,x2,x3,x4,x5,x6,x7,x8⟩:=ca9 hSw.2;go_simp;try (with_reducible rfl))
 try simp only[Qu,sl2,sl0,sl1]
 refine zr 4 rfl (fun K hK=>?_)
 go_simp
 go_at_call 135
 (with_reducible refine (listed_says l.length _ (usL l) w.heap.size W HO0.out HN3.out).mono ?_)
 rintro e W1 ⟨v,rfl,ho,hb⟩
 obtain ⟨p1,m1,c1,rfl⟩:=own_slice ho
 have HO1:=hid (own_less ho (Qk HSZ.out hS.1.size))
 replace hS:=And.intro (hS.1.trans (RF.of hb)) (hS.2.below hb hS.2.lt)
 clear ho hb
 refine hK.out _ _ hS (fun _=>?_)
 clear hK K
 try simp only[Qu,sl2,sl0,sl1]
 refine zr 7 rfl (fun K hK=>?_)
 go_simp
 go_at_call 133
 (with_reducible refine (RU_says a W1).mono ?_)
 rintro e W2 ⟨v,rfl,ho,hb⟩
 obtain ⟨p2,m2,c2,rfl⟩:=own_slice ho
 have HO2:=hid (own_less ho (Qk HSZ.out hS.1.size))
 replace HO1:=hid (own_kept HO1.out hb)
 replace hS:=And.intro (hS.1.trans (RF.of hb)) (hS.2.below hb hS.2.lt)
 clear ho hb
 refine hK.out _ _ hS (fun _=>?_)
 clear hK K
 try simp only[Qu,sl2,sl0,sl1]
 refine zr 8 rfl (fun K hK=>?_)
 refine append_rowS rfl (.tmp 65) (.tmp 68) rfl w.heap.size _ _ _ _ _ w HO1.out HO2.out HN4.out (Ql _) hS.1 rfl rfl ?_
 intro p3 m3 c3 W3 ho3 hr
 replace hS:=And.intro (hS.1.trans hr) (hS.2.rf hr (by decide))
 have HO3:=hid ho3
 clear ho3 hr HO1 HO2
 refine hK.out _ _ hS (fun _=>?_)
 clear hK K
 try simp only[Qu,sl2,sl0,sl1]
 refine zt 9 (V p3 m3 c3) rfl ?_ ?_
 ·(intro W hSw;obtain ⟨x0,x1,x2,x3,x4,x5,x6,x7,x8⟩:=ca9 hSw.2;go_simp;try (with_reducible rfl))
 try simp only[Qu,sl2,sl0,sl1]
 refine wpAnyH_done (by kernel_rfl) ?_ _
 have HF:=hid hS.1
 clear hS
 go_wp2
 go_ret
 exact ⟨_,rfl,HO3.out,HF.out.below (Ql _)⟩
end Go.Proofs.YtjgeedgphcjhoaaGreat
