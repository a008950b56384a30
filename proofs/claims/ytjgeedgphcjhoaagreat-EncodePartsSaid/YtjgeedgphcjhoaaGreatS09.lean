/-
  PImp1, PImp2, RImp1, RImp2, RImp3, ImpA, LBase, LPlain8, LUtf, LPlain9: merged, what the law does not reach left out (each text says what it holds where it lies in wip). No condition.
-/
import Derived.Test.YtjgeedgphcjhoaaGreatS08
import Derived.Test.YtjgeedgphcjhoaaGreatS07
import Derived.Deep.RegionHeld3
import Derived.Deep.DeepCutAuto
import Derived.Test.YtjgeedgphcjhoaaGreatProg
import Derived.Test.YtjgeedgphcjhoaaGreatS01
import Derived.WalkKit
import Derived.WalkSpells
import Derived.WalkLawsBesides
import Derived.Lib.UnsafeStr
import Derived.Laws.AppendOwnNone
import Derived.Lib.DecodeN
import Derived.Laws.RangeAny
import Derived.Lib.OthersKept
import Derived.Lib.Strings
set_option linter.unusedSimpArgs false
set_option linter.unusedVariables false
set_option maxRecDepth 100000
set_option maxHeartbeats 64000000
namespace Go.Proofs.YtjgeedgphcjhoaaGreat
open Go.RowKit
open Value renaming int → I,slice → V,bool → G,string → Qs,pointer → Qp
open IntKind renaming i64 → J
open Ending renaming returned → Qr
open Obj renaming cells → Qc
open _root_.Go.Proofs.Tryz renaming prog → QP
open Nat renaming le_refl → Ql
open Below renaming refl → QB
open Act renaming put → Qu
open Lib renaming byteCells → QY
theorem isImport_1 (s1 s2:ByteArray) (ty tr tmn tmx:Int) (th:Bool) (mmn mmx:Int) (mh:Bool) (gt:Int) (gm:Bool) (v1 v2:Bool) (w:World)
  (h1:∀W,Calls QP 147 #[Qs s1] W fun e w'=>e=Qr (G v1)∧Below W.heap.size W w') (h2:∀W,Calls QP 147 #[Qs s2] W fun e w'=>e=Qr (G v2)∧Below W.heap.size W w') :
  Calls QP 33 #[.agg #[Qs s1,Qs s2,I J 1,I J ty,I J tr,I J tmn,I J tmx,G th,I J mmn,I J mmx,G mh,I J gt,G gm]] w fun e w'=>e=Qr (G ((refB tr&&limB tmn tmx th)&&((ty==0)&&zLB mmn mmx mh&&zGB gt gm)&&v1&&v2))∧Below w.heap.size w w':=by
 have HV1:=fun W=>hid (h1 W)
 have HV2:=fun W=>hid (h2 W)
 have HI:=fun W=>hid (isTableType_says tr tmn tmx th W)
 generalize (refB tr&&limB tmn tmx th)=a at *
 have hb0:=(QB w.heap.size w).alloc (Ql _) (Qc #[Qs s1,Qs s2,I J 1,I J ty,I J tr,I J tmn,I J tmx,G th,I J mmn,I J mmx,G mh,I J gt,G gm] 74)
 have hx0:=CA.new w #[Qs s1,Qs s2,I J 1,I J ty,I J tr,I J tmn,I J tmx,G th,I J mmn,I J mmx,G mh,I J gt,G gm] 74
 obtain ⟨x0,x1,x2,x3,x4,x5,x6,x7,x8,x9,x10,x11,x12⟩:=ca13 hx0
 have HB:=hid (hb0.alloc (by rw[size_al];omega) (Qc #[Qs s1,Qs s2,I J 1,I J 0,I J 0,I J 0,I J 0,G false,I J 0,I J 0,G false,I J 0,G false] 74))
 have HX:=hid (hx0.alloc (Qc #[Qs s1,Qs s2,I J 1,I J 0,I J 0,I J 0,I J 0,G false,I J 0,I J 0,G false,I J 0,G false] 74))
 have ho:=CA.new (w.alloc (Qc #[Qs s1,Qs s2,I J 1,I J ty,I J tr,I J tmn,I J tmx,G th,I J mmn,I J mmx,G mh,I J gt,G gm] 74)) #[Qs s1,Qs s2,I J 1,I J 0,I J 0,I J 0,I J 0,G false,I J 0,I J 0,G false,I J 0,G false] 74
 rw[size_al]at ho
 have HO0:=hid ho
 clear h1 h2 ho hb0 hx0
 go_enter Tryz.func33,Tryz.ntmps33
 go_upto_region 7 with fail
 clear x0 x1 x2 x3 x4 x5 x6 x7 x8 x9 x10 x11 x12
 have hS:Below w.heap.size w (((w.alloc (Qc #[Qs s1,Qs s2,I J 1,I J ty,I J tr,I J tmn,I J tmx,G th,I J mmn,I J mmx,G mh,I J gt,G gm] 74)).alloc (Qc #[Qs s1,Qs s2,I J 1,I J 0,I J 0,I J 0,I J 0,G false,I J 0,I J 0,G false,I J 0,G false] 74)).drew)∧CA w.heap.size #[Qs s1,Qs s2,I J 1,I J ty,I J tr,I J tmn,I J tmx,G th,I J mmn,I J mmx,G mh,I J gt,G gm] 74 (((w.alloc (Qc #[Qs s1,Qs s2,I J 1,I J ty,I J tr,I J tmn,I J tmx,G th,I J mmn,I J mmx,G mh,I J gt,G gm] 74)).alloc (Qc #[Qs s1,Qs s2,I J 1,I J 0,I J 0,I J 0,I J 0,G false,I J 0,I J 0,G false,I J 0,G false] 74)).drew):=⟨HB.out.drew,HX.out⟩
 have HO:Hid (CA (w.heap.size+1) #[Qs s1,Qs s2,I J 1,I J 0,I J 0,I J 0,I J 0,G false,I J 0,I J 0,G false,I J 0,G false] 74 (((w.alloc (Qc #[Qs s1,Qs s2,I J 1,I J ty,I J tr,I J tmn,I J tmx,G th,I J mmn,I J mmx,G mh,I J gt,G gm] 74)).alloc (Qc #[Qs s1,Qs s2,I J 1,I J 0,I J 0,I J 0,I J 0,G false,I J 0,I J 0,G false,I J 0,G false] 74)).drew)):=HO0
 clear HO0 HB HX
 refine wp_region_held_drew (S:=fun W=>Below w.heap.size w W∧CA w.heap.size #[Qs s1,Qs s2,I J 1,I J ty,I J tr,I J tmn,I J tmx,G th,I J mmn,I J mmx,G mh,I J gt,G gm] 74 W) (by kernel_rfl) hS (fun _=>?_)
 generalize ((w.alloc (Qc #[Qs s1,Qs s2,I J 1,I J ty,I J tr,I J tmn,I J tmx,G th,I J mmn,I J mmx,G mh,I J gt,G gm] 74)).alloc (Qc #[Qs s1,Qs s2,I J 1,I J 0,I J 0,I J 0,I J 0,G false,I J 0,I J 0,G false,I J 0,G false] 74)).drew=W at *
 refine zt 0 (Qp (some ⟨w.heap.size,4,none⟩)) rfl ?_ ?_
 ·(intro W hSw;obtain ⟨x0,x1,x2,x3,x4,x5,x6,x7,x8,x9,x10,x11,x12⟩:=ca13 hSw.2;go_simp;try (with_reducible rfl))
 try simp only[Qu,sl2,sl0,sl1]
 refine zt 1 (.agg #[I J tr,I J tmn,I J tmx,G th]) rfl ?_ ?_
 ·(intro W hSw;obtain ⟨x0,x1,x2,x3,x4,x5,x6,x7,x8,x9,x10,x11,x12⟩:=ca13 hSw.2;go_simp;try (with_reducible rfl))
 try simp only[Qu,sl2,sl0,sl1]
 refine zt 2 (Qp (some ⟨w.heap.size,4,none⟩)) rfl ?_ ?_
 ·(intro W hSw;obtain ⟨x0,x1,x2,x3,x4,x5,x6,x7,x8,x9,x10,x11,x12⟩:=ca13 hSw.2;go_simp;try (with_reducible rfl))
 try simp only[Qu,sl2,sl0,sl1]
 refine zt 3 (.agg #[I J tr,I J tmn,I J tmx,G th]) rfl ?_ ?_
 ·(intro W hSw;obtain ⟨x0,x1,x2,x3,x4,x5,x6,x7,x8,x9,x10,x11,x12⟩:=ca13 hSw.2;go_simp;try (with_reducible rfl))
 try simp only[Qu,sl2,sl0,sl1]
 refine zt 5 (Qp (some ⟨w.heap.size+1,4,none⟩)) rfl ?_ ?_
 ·(intro W hSw;obtain ⟨x0,x1,x2,x3,x4,x5,x6,x7,x8,x9,x10,x11,x12⟩:=ca13 hSw.2;go_simp;try (with_reducible rfl))
 try simp only[Qu,sl2,sl0,sl1]
 refine zr 4 rfl (fun K hK=>?_)
 go_simp
 go_at_call 37
 (with_reducible refine (HI W).out.mono ?_)
 rintro e W1 ⟨rfl,hb⟩
 replace HO:=Qe HO hb
 replace hS:=And.intro (hS.1.trans (hb.mono hS.1.size)) (hS.2.below hb hS.2.lt)
 clear hb
 refine hK.out _ _ hS (fun _=>?_)
 clear hK K
 try simp only[Qu,sl2,sl0,sl1]
 refine zr 6 rfl (fun K hK=>?_)
 have z0:=HO.out.at (k:=4) (v:=I J 0) rfl
 have q0:=HO.out.free 4
 have z1:=HO.out.at (k:=5) (v:=I J 0) rfl
 have q1:=HO.out.free 5
 have z2:=HO.out.at (k:=6) (v:=I J 0) rfl
 have q2:=HO.out.free 6
 have z3:=HO.out.at (k:=7) (v:=G false) rfl
 have q3:=HO.out.free 7
 go_simp
 have ho2:CA (w.heap.size+1) #[Qs s1,Qs s2,I J 1,I J 0,I J tr,I J tmn,I J tmx,G th,I J 0,I J 0,G false,I J 0,G false] 74 ((((W1.setCell ⟨w.heap.size+1,4,none⟩ (I J tr)).setCell ⟨w.heap.size+1,5,none⟩ (I J tmn)).setCell ⟨w.heap.size+1,6,none⟩ (I J tmx)).setCell ⟨w.heap.size+1,7,none⟩ (G th)):=((((HO.out.set (k:=4) (I J tr)).set (k:=5) (I J tmn)).set (k:=6) (I J tmx)).set (k:=7) (G th))
 replace hS:=And.intro ((((hS.1.setCell (p:=⟨w.heap.size+1,4,none⟩) (Nat.le_succ _) (I J tr)).setCell (p:=⟨w.heap.size+1,5,none⟩) (Nat.le_succ _) (I J tmn)).setCell (p:=⟨w.heap.size+1,6,none⟩) (Nat.le_succ _) (I J tmx)).setCell (p:=⟨w.heap.size+1,7,none⟩) (Nat.le_succ _) (G th)) ((((hS.2.far (o:=4) (Nat.ne_of_gt (Nat.lt_succ_self _)) (I J tr)).far (o:=5) (Nat.ne_of_gt (Nat.lt_succ_self _)) (I J tmn)).far (o:=6) (Nat.ne_of_gt (Nat.lt_succ_self _)) (I J tmx)).far (o:=7) (Nat.ne_of_gt (Nat.lt_succ_self _)) (G th))
 have HO2:=hid ho2
 clear ho2 HO z0 q0 z1 q1 z2 q2 z3 q3
 generalize ((((W1.setCell ⟨w.heap.size+1,4,none⟩ (I J tr)).setCell ⟨w.heap.size+1,5,none⟩ (I J tmn)).setCell ⟨w.heap.size+1,6,none⟩ (I J tmx)).setCell ⟨w.heap.size+1,7,none⟩ (G th))=W9 at *
 refine hK.out _ _ hS (fun _=>?_)
 clear hK K
 try simp only[Qu,sl2,sl0,sl1]
 refine zt 7 (G a) rfl ?_ ?_
 ·(intro W hSw;obtain ⟨x0,x1,x2,x3,x4,x5,x6,x7,x8,x9,x10,x11,x12⟩:=ca13 hSw.2;go_simp;try (with_reducible rfl))
 try simp only[Qu,sl2,sl0,sl1]
 refine wpAnyH_done (by kernel_rfl) ?_ _
 have HF:=hid hS.1
 have HFX:=hid hS.2
 obtain ⟨y0,y1,y2,y3,y4,y5,y6,y7,y8,y9,y10,y11,y12⟩:=ca13 hS.2
 obtain ⟨o0,o1,o2,o3,o4,o5,o6,o7,o8,o9,o10,o11,o12⟩:=ca13 HO2.out
 clear hS
 go_wp2_with (first
  |(go_at_call 147;(with_reducible refine (HV1 _).out.mono ?_);rintro e w8 ⟨rfl,hb⟩;have HG:=Qd HF hb;have HGX:=Qe HFX hb;have y1:=HGX.out.at (k:=1) (v:=Qs s2) rfl;clear hb)
  |(go_at_call 147;(with_reducible refine (HV2 _).out.mono ?_);rintro e w9 ⟨rfl,hb⟩;have HH:=Qd HG hb;clear hb))
 all_goals
  go_ret
  first
   |exact ⟨by simp_all[zTB,zLB,zGB],HH.out⟩
   |exact ⟨by simp_all[zTB,zLB,zGB],HG.out⟩
   |exact ⟨by simp_all[zTB,zLB,zGB],HF.out⟩
theorem isImport_2 (s1 s2:ByteArray) (ty tr tmn tmx:Int) (th:Bool) (mmn mmx:Int) (mh:Bool) (gt:Int) (gm:Bool) (v1 v2:Bool) (w:World)
  (h1:∀W,Calls QP 147 #[Qs s1] W fun e w'=>e=Qr (G v1)∧Below W.heap.size W w') (h2:∀W,Calls QP 147 #[Qs s2] W fun e w'=>e=Qr (G v2)∧Below W.heap.size W w') :
  Calls QP 33 #[.agg #[Qs s1,Qs s2,I J 2,I J ty,I J tr,I J tmn,I J tmx,G th,I J mmn,I J mmx,G mh,I J gt,G gm]] w fun e w'=>e=Qr (G (limB mmn mmx mh&&((ty==0)&&zTB tr tmn tmx th&&zGB gt gm)&&v1&&v2))∧Below w.heap.size w w':=by
 have HV1:=fun W=>hid (h1 W)
 have HV2:=fun W=>hid (h2 W)
 have HI:=fun W=>hid (isLimits_says mmn mmx mh W)
 generalize limB mmn mmx mh=a at *
 have hb0:=(QB w.heap.size w).alloc (Ql _) (Qc #[Qs s1,Qs s2,I J 2,I J ty,I J tr,I J tmn,I J tmx,G th,I J mmn,I J mmx,G mh,I J gt,G gm] 74)
 have hx0:=CA.new w #[Qs s1,Qs s2,I J 2,I J ty,I J tr,I J tmn,I J tmx,G th,I J mmn,I J mmx,G mh,I J gt,G gm] 74
 obtain ⟨x0,x1,x2,x3,x4,x5,x6,x7,x8,x9,x10,x11,x12⟩:=ca13 hx0
 have HB:=hid (hb0.alloc (by rw[size_al];omega) (Qc #[Qs s1,Qs s2,I J 2,I J 0,I J 0,I J 0,I J 0,G false,I J 0,I J 0,G false,I J 0,G false] 74))
 have HX:=hid (hx0.alloc (Qc #[Qs s1,Qs s2,I J 2,I J 0,I J 0,I J 0,I J 0,G false,I J 0,I J 0,G false,I J 0,G false] 74))
 have ho:=CA.new (w.alloc (Qc #[Qs s1,Qs s2,I J 2,I J ty,I J tr,I J tmn,I J tmx,G th,I J mmn,I J mmx,G mh,I J gt,G gm] 74)) #[Qs s1,Qs s2,I J 2,I J 0,I J 0,I J 0,I J 0,G false,I J 0,I J 0,G false,I J 0,G false] 74
 rw[size_al]at ho
 have HO0:=hid ho
 clear h1 h2 ho hb0 hx0
 go_enter Tryz.func33,Tryz.ntmps33
 go_upto_region 9 with fail
 clear x0 x1 x2 x3 x4 x5 x6 x7 x8 x9 x10 x11 x12
 have hS:Below w.heap.size w (((w.alloc (Qc #[Qs s1,Qs s2,I J 2,I J ty,I J tr,I J tmn,I J tmx,G th,I J mmn,I J mmx,G mh,I J gt,G gm] 74)).alloc (Qc #[Qs s1,Qs s2,I J 2,I J 0,I J 0,I J 0,I J 0,G false,I J 0,I J 0,G false,I J 0,G false] 74)).drew)∧CA w.heap.size #[Qs s1,Qs s2,I J 2,I J ty,I J tr,I J tmn,I J tmx,G th,I J mmn,I J mmx,G mh,I J gt,G gm] 74 (((w.alloc (Qc #[Qs s1,Qs s2,I J 2,I J ty,I J tr,I J tmn,I J tmx,G th,I J mmn,I J mmx,G mh,I J gt,G gm] 74)).alloc (Qc #[Qs s1,Qs s2,I J 2,I J 0,I J 0,I J 0,I J 0,G false,I J 0,I J 0,G false,I J 0,G false] 74)).drew):=⟨HB.out.drew,HX.out⟩
 have HO:Hid (CA (w.heap.size+1) #[Qs s1,Qs s2,I J 2,I J 0,I J 0,I J 0,I J 0,G false,I J 0,I J 0,G false,I J 0,G false] 74 (((w.alloc (Qc #[Qs s1,Qs s2,I J 2,I J ty,I J tr,I J tmn,I J tmx,G th,I J mmn,I J mmx,G mh,I J gt,G gm] 74)).alloc (Qc #[Qs s1,Qs s2,I J 2,I J 0,I J 0,I J 0,I J 0,G false,I J 0,I J 0,G false,I J 0,G false] 74)).drew)):=HO0
 clear HO0 HB HX
 refine wp_region_held_drew (S:=fun W=>Below w.heap.size w W∧CA w.heap.size #[Qs s1,Qs s2,I J 2,I J ty,I J tr,I J tmn,I J tmx,G th,I J mmn,I J mmx,G mh,I J gt,G gm] 74 W) (by kernel_rfl) hS (fun _=>?_)
 generalize ((w.alloc (Qc #[Qs s1,Qs s2,I J 2,I J ty,I J tr,I J tmn,I J tmx,G th,I J mmn,I J mmx,G mh,I J gt,G gm] 74)).alloc (Qc #[Qs s1,Qs s2,I J 2,I J 0,I J 0,I J 0,I J 0,G false,I J 0,I J 0,G false,I J 0,G false] 74)).drew=W at *
 refine zt 0 (Qp (some ⟨w.heap.size,8,none⟩)) rfl ?_ ?_
 ·(intro W hSw;obtain ⟨x0,x1,x2,x3,x4,x5,x6,x7,x8,x9,x10,x11,x12⟩:=ca13 hSw.2;go_simp;try (with_reducible rfl))
 try simp only[Qu,sl2,sl0,sl1]
 refine zt 1 (.agg #[I J mmn,I J mmx,G mh]) rfl ?_ ?_
 ·(intro W hSw;obtain ⟨x0,x1,x2,x3,x4,x5,x6,x7,x8,x9,x10,x11,x12⟩:=ca13 hSw.2;go_simp;try (with_reducible rfl))
 try simp only[Qu,sl2,sl0,sl1]
 refine zt 2 (Qp (some ⟨w.heap.size,8,none⟩)) rfl ?_ ?_
 ·(intro W hSw;obtain ⟨x0,x1,x2,x3,x4,x5,x6,x7,x8,x9,x10,x11,x12⟩:=ca13 hSw.2;go_simp;try (with_reducible rfl))
 try simp only[Qu,sl2,sl0,sl1]
 refine zt 3 (.agg #[I J mmn,I J mmx,G mh]) rfl ?_ ?_
 ·(intro W hSw;obtain ⟨x0,x1,x2,x3,x4,x5,x6,x7,x8,x9,x10,x11,x12⟩:=ca13 hSw.2;go_simp;try (with_reducible rfl))
 try simp only[Qu,sl2,sl0,sl1]
 refine zt 5 (Qp (some ⟨w.heap.size+1,8,none⟩)) rfl ?_ ?_
 ·(intro W hSw;obtain ⟨x0,x1,x2,x3,x4,x5,x6,x7,x8,x9,x10,x11,x12⟩:=ca13 hSw.2;go_simp;try (with_reducible rfl))
 try simp only[Qu,sl2,sl0,sl1]
 refine zr 4 rfl (fun K hK=>?_)
 go_simp
 go_at_call 39
 (with_reducible refine (HI W).out.mono ?_)
 rintro e W1 ⟨rfl,hb⟩
 replace HO:=Qe HO hb
 replace hS:=And.intro (hS.1.trans (hb.mono hS.1.size)) (hS.2.below hb hS.2.lt)
 clear hb
 refine hK.out _ _ hS (fun _=>?_)
 clear hK K
 try simp only[Qu,sl2,sl0,sl1]
 refine zr 6 rfl (fun K hK=>?_)
 have z0:=HO.out.at (k:=8) (v:=I J 0) rfl
 have q0:=HO.out.free 8
 have z1:=HO.out.at (k:=9) (v:=I J 0) rfl
 have q1:=HO.out.free 9
 have z2:=HO.out.at (k:=10) (v:=G false) rfl
 have q2:=HO.out.free 10
 go_simp
 have ho2:CA (w.heap.size+1) #[Qs s1,Qs s2,I J 2,I J 0,I J 0,I J 0,I J 0,G false,I J mmn,I J mmx,G mh,I J 0,G false] 74 (((W1.setCell ⟨w.heap.size+1,8,none⟩ (I J mmn)).setCell ⟨w.heap.size+1,9,none⟩ (I J mmx)).setCell ⟨w.heap.size+1,10,none⟩ (G mh)):=(((HO.out.set (k:=8) (I J mmn)).set (k:=9) (I J mmx)).set (k:=10) (G mh))
 replace hS:=And.intro (((hS.1.setCell (p:=⟨w.heap.size+1,8,none⟩) (Nat.le_succ _) (I J mmn)).setCell (p:=⟨w.heap.size+1,9,none⟩) (Nat.le_succ _) (I J mmx)).setCell (p:=⟨w.heap.size+1,10,none⟩) (Nat.le_succ _) (G mh)) (((hS.2.far (o:=8) (Nat.ne_of_gt (Nat.lt_succ_self _)) (I J mmn)).far (o:=9) (Nat.ne_of_gt (Nat.lt_succ_self _)) (I J mmx)).far (o:=10) (Nat.ne_of_gt (Nat.lt_succ_self _)) (G mh))
 have HO2:=hid ho2
 clear ho2 HO z0 q0 z1 q1 z2 q2
 generalize (((W1.setCell ⟨w.heap.size+1,8,none⟩ (I J mmn)).setCell ⟨w.heap.size+1,9,none⟩ (I J mmx)).setCell ⟨w.heap.size+1,10,none⟩ (G mh))=W9 at *
 refine hK.out _ _ hS (fun _=>?_)
 clear hK K
 try simp only[Qu,sl2,sl0,sl1]
 refine zt 7 (G a) rfl ?_ ?_
 ·(intro W hSw;obtain ⟨x0,x1,x2,x3,x4,x5,x6,x7,x8,x9,x10,x11,x12⟩:=ca13 hSw.2;go_simp;try (with_reducible rfl))
 try simp only[Qu,sl2,sl0,sl1]
 refine wpAnyH_done (by kernel_rfl) ?_ _
 have HF:=hid hS.1
 have HFX:=hid hS.2
 obtain ⟨y0,y1,y2,y3,y4,y5,y6,y7,y8,y9,y10,y11,y12⟩:=ca13 hS.2
 obtain ⟨o0,o1,o2,o3,o4,o5,o6,o7,o8,o9,o10,o11,o12⟩:=ca13 HO2.out
 clear hS
 go_wp2_with (first
  |(go_at_call 147;(with_reducible refine (HV1 _).out.mono ?_);rintro e w8 ⟨rfl,hb⟩;have HG:=Qd HF hb;have HGX:=Qe HFX hb;have y1:=HGX.out.at (k:=1) (v:=Qs s2) rfl;clear hb)
  |(go_at_call 147;(with_reducible refine (HV2 _).out.mono ?_);rintro e w9 ⟨rfl,hb⟩;have HH:=Qd HG hb;clear hb))
 all_goals
  go_ret
  first
   |exact ⟨by simp_all[zTB,zLB,zGB],HH.out⟩
   |exact ⟨by simp_all[zTB,zLB,zGB],HG.out⟩
   |exact ⟨by simp_all[zTB,zLB,zGB],HF.out⟩
theorem isImport_else (s1 s2:ByteArray) (kd ty tr tmn tmx:Int) (th:Bool) (mmn mmx:Int) (mh:Bool) (gt:Int) (gm:Bool) (w:World)
  (k0:kd≠0) (k1:kd≠1) (k2:kd≠2) (k3:kd≠3) :
  Calls QP 33 #[.agg #[Qs s1,Qs s2,I J kd,I J ty,I J tr,I J tmn,I J tmx,G th,I J mmn,I J mmx,G mh,I J gt,G gm]] w fun e w'=>e=Qr (G false)∧Below w.heap.size w w':=by
 have hb0:=(QB w.heap.size w).alloc (Ql _) (Qc #[Qs s1,Qs s2,I J kd,I J ty,I J tr,I J tmn,I J tmx,G th,I J mmn,I J mmx,G mh,I J gt,G gm] 74)
 have hx0:=CA.new w #[Qs s1,Qs s2,I J kd,I J ty,I J tr,I J tmn,I J tmx,G th,I J mmn,I J mmx,G mh,I J gt,G gm] 74
 obtain ⟨x0,x1,x2,x3,x4,x5,x6,x7,x8,x9,x10,x11,x12⟩:=ca13 hx0
 have HB:=hid (hb0.alloc (by rw[size_al];omega) (Qc #[Qs s1,Qs s2,I J kd,I J 0,I J 0,I J 0,I J 0,G false,I J 0,I J 0,G false,I J 0,G false] 74))
 clear hb0 hx0
 go_enter Tryz.func33,Tryz.ntmps33
 go_wp2
 go_ret
 exact ⟨rfl,HB.out⟩
theorem imported_1 (s1 s2:ByteArray) (ty tr tmn tmx:Int) (th:Bool) (mmn mmx:Int) (mh:Bool) (gt:Int) (gm:Bool) (nb:Bool) (w:World)
  (hn:∀W,Calls QP 57 #[Qs s1,Qs s2] W fun e w'=>e=Qr (G nb)∧Below W.heap.size W w') :
  Calls QP 51 #[.agg #[Qs s1,Qs s2,I J 1,I J ty,I J tr,I J tmn,I J tmx,G th,I J mmn,I J mmx,G mh,I J gt,G gm]] w fun e w'=>e=Qr (G (nb&&(refB tr&&limR tmn tmx th&&(ty==0)&&zLB mmn mmx mh&&zGB gt gm)))∧Below w.heap.size w w':=by
 have HN:=fun W=>hid (hn W)
 have HI:=fun W=>hid (Rtable_says tr tmn tmx th W)
 rw[show (refB tr&&limR tmn tmx th&&(ty==0)&&zLB mmn mmx mh&&zGB gt gm)=((refB tr&&limR tmn tmx th)&&(ty==0)&&zLB mmn mmx mh&&zGB gt gm) from rfl]
 generalize (refB tr&&limR tmn tmx th)=a at *
 have HB:=hid ((QB w.heap.size w).alloc (Ql _) (Qc #[Qs s1,Qs s2,I J 1,I J ty,I J tr,I J tmn,I J tmx,G th,I J mmn,I J mmx,G mh,I J gt,G gm] 74))
 have HX:=hid (CA.new w #[Qs s1,Qs s2,I J 1,I J ty,I J tr,I J tmn,I J tmx,G th,I J mmn,I J mmx,G mh,I J gt,G gm] 74)
 have x0:=HX.out.at (k:=0) (v:=Qs s1) rfl
 have x1:=HX.out.at (k:=1) (v:=Qs s2) rfl
 clear hn
 go_enter Tryz.func51,Tryz.ntmps51
 go_upto_region 5 with (go_at_call 57;(with_reducible refine (HN _).out.mono ?_);rintro e w1 ⟨rfl,hb⟩;have HB1:=Qd HB hb;have HX1:=Qe HX hb;clear hb)
 clear x0 x1
 have HX2:=hid (((HX1.out.alloc (Qc #[I J 0,I J 0,I J 0,G false] 72)).alloc (Qc #[I J 0,I J 0,G false] 70)).alloc (Qc #[I J 0,G false] 44))
 have HB2:=hid (((HB1.out.alloc HB1.out.size (Qc #[I J 0,I J 0,I J 0,G false] 72)).alloc (by rw[size_al];have:=HB1.out.size;omega) (Qc #[I J 0,I J 0,G false] 70)).alloc (by rw[size_al,size_al];have:=HB1.out.size;omega) (Qc #[I J 0,G false] 44))
 have HT:=hid (((CA.new w1 #[I J 0,I J 0,I J 0,G false] 72).alloc (Qc #[I J 0,I J 0,G false] 70)).alloc (Qc #[I J 0,G false] 44))
 have hl:=CA.new (w1.alloc (Qc #[I J 0,I J 0,I J 0,G false] 72)) #[I J 0,I J 0,G false] 70
 rw[size_al]at hl
 have HL:=hid (hl.alloc (Qc #[I J 0,G false] 44))
 have hg:=CA.new ((w1.alloc (Qc #[I J 0,I J 0,I J 0,G false] 72)).alloc (Qc #[I J 0,I J 0,G false] 70)) #[I J 0,G false] 44
 rw[size_al,size_al]at hg
 have HG:=hid hg
 clear hl hg HX1 HB1 HX HB
 generalize ((w1.alloc (Qc #[I J 0,I J 0,I J 0,G false] 72)).alloc (Qc #[I J 0,I J 0,G false] 70)).alloc (Qc #[I J 0,G false] 44)=w2 at *
 generalize w1.heap.size=k at *
 obtain ⟨y0,y1,y2,y3,y4,y5,y6,y7,y8,y9,y10,y11,y12⟩:=ca13 HX2.out
 have t0:=HT.out.at (k:=0) (v:=I J 0) rfl
 have t1:=HT.out.at (k:=1) (v:=I J 0) rfl
 have t2:=HT.out.at (k:=2) (v:=I J 0) rfl
 have t3:=HT.out.at (k:=3) (v:=G false) rfl
 have l0:=HL.out.at (k:=0) (v:=I J 0) rfl
 have l1:=HL.out.at (k:=1) (v:=I J 0) rfl
 have l2:=HL.out.at (k:=2) (v:=G false) rfl
 have g0:=HG.out.at (k:=0) (v:=I J 0) rfl
 have g1:=HG.out.at (k:=1) (v:=G false) rfl
 go_wp2_with (go_at_call 54;(with_reducible refine (HI _).out.mono ?_);rintro e w3 ⟨rfl,hb⟩;have HB3:=Qd HB2 hb;have HX3:=Qe HX2 hb;have HT3:=Qe HT hb;have HL3:=Qe HL hb;have HG3:=Qe HG hb;obtain ⟨y0,y1,y2,y3,y4,y5,y6,y7,y8,y9,y10,y11,y12⟩:=ca13 HX3.out;have t0:=HT3.out.at (k:=0) (v:=I J 0) rfl;have t1:=HT3.out.at (k:=1) (v:=I J 0) rfl;have t2:=HT3.out.at (k:=2) (v:=I J 0) rfl;have t3:=HT3.out.at (k:=3) (v:=G false) rfl;have l0:=HL3.out.at (k:=0) (v:=I J 0) rfl;have l1:=HL3.out.at (k:=1) (v:=I J 0) rfl;have l2:=HL3.out.at (k:=2) (v:=G false) rfl;have g0:=HG3.out.at (k:=0) (v:=I J 0) rfl;have g1:=HG3.out.at (k:=1) (v:=G false) rfl;clear hb)
 all_goals
  go_ret
  first
   |exact ⟨by simp_all[zTB,zLB,zGB],HB3.out⟩
   |exact ⟨by simp_all[zTB,zLB,zGB],HB2.out⟩
theorem imported_2 (s1 s2:ByteArray) (ty tr tmn tmx:Int) (th:Bool) (mmn mmx:Int) (mh:Bool) (gt:Int) (gm:Bool) (nb:Bool) (w:World)
  (hn:∀W,Calls QP 57 #[Qs s1,Qs s2] W fun e w'=>e=Qr (G nb)∧Below W.heap.size W w') :
  Calls QP 51 #[.agg #[Qs s1,Qs s2,I J 2,I J ty,I J tr,I J tmn,I J tmx,G th,I J mmn,I J mmx,G mh,I J gt,G gm]] w fun e w'=>e=Qr (G (nb&&(limR mmn mmx mh&&(ty==0)&&zTB tr tmn tmx th&&zGB gt gm)))∧Below w.heap.size w w':=by
 have HN:=fun W=>hid (hn W)
 have HI:=fun W=>hid (Rlimits_says mmn mmx mh W)
 generalize limR mmn mmx mh=a at *
 have HB:=hid ((QB w.heap.size w).alloc (Ql _) (Qc #[Qs s1,Qs s2,I J 2,I J ty,I J tr,I J tmn,I J tmx,G th,I J mmn,I J mmx,G mh,I J gt,G gm] 74))
 have HX:=hid (CA.new w #[Qs s1,Qs s2,I J 2,I J ty,I J tr,I J tmn,I J tmx,G th,I J mmn,I J mmx,G mh,I J gt,G gm] 74)
 have x0:=HX.out.at (k:=0) (v:=Qs s1) rfl
 have x1:=HX.out.at (k:=1) (v:=Qs s2) rfl
 clear hn
 go_enter Tryz.func51,Tryz.ntmps51
 go_upto_region 5 with (go_at_call 57;(with_reducible refine (HN _).out.mono ?_);rintro e w1 ⟨rfl,hb⟩;have HB1:=Qd HB hb;have HX1:=Qe HX hb;clear hb)
 clear x0 x1
 have HX2:=hid (((HX1.out.alloc (Qc #[I J 0,I J 0,I J 0,G false] 72)).alloc (Qc #[I J 0,I J 0,G false] 70)).alloc (Qc #[I J 0,G false] 44))
 have HB2:=hid (((HB1.out.alloc HB1.out.size (Qc #[I J 0,I J 0,I J 0,G false] 72)).alloc (by rw[size_al];have:=HB1.out.size;omega) (Qc #[I J 0,I J 0,G false] 70)).alloc (by rw[size_al,size_al];have:=HB1.out.size;omega) (Qc #[I J 0,G false] 44))
 have HT:=hid (((CA.new w1 #[I J 0,I J 0,I J 0,G false] 72).alloc (Qc #[I J 0,I J 0,G false] 70)).alloc (Qc #[I J 0,G false] 44))
 have hl:=CA.new (w1.alloc (Qc #[I J 0,I J 0,I J 0,G false] 72)) #[I J 0,I J 0,G false] 70
 rw[size_al]at hl
 have HL:=hid (hl.alloc (Qc #[I J 0,G false] 44))
 have hg:=CA.new ((w1.alloc (Qc #[I J 0,I J 0,I J 0,G false] 72)).alloc (Qc #[I J 0,I J 0,G false] 70)) #[I J 0,G false] 44
 rw[size_al,size_al]at hg
 have HG:=hid hg
 clear hl hg HX1 HB1 HX HB
 generalize ((w1.alloc (Qc #[I J 0,I J 0,I J 0,G false] 72)).alloc (Qc #[I J 0,I J 0,G false] 70)).alloc (Qc #[I J 0,G false] 44)=w2 at *
 generalize w1.heap.size=k at *
 obtain ⟨y0,y1,y2,y3,y4,y5,y6,y7,y8,y9,y10,y11,y12⟩:=ca13 HX2.out
 have t0:=HT.out.at (k:=0) (v:=I J 0) rfl
 have t1:=HT.out.at (k:=1) (v:=I J 0) rfl
 have t2:=HT.out.at (k:=2) (v:=I J 0) rfl
 have t3:=HT.out.at (k:=3) (v:=G false) rfl
 have l0:=HL.out.at (k:=0) (v:=I J 0) rfl
 have l1:=HL.out.at (k:=1) (v:=I J 0) rfl
 have l2:=HL.out.at (k:=2) (v:=G false) rfl
 have g0:=HG.out.at (k:=0) (v:=I J 0) rfl
 have g1:=HG.out.at (k:=1) (v:=G false) rfl
 go_wp2_with (go_at_call 55;(with_reducible refine (HI _).out.mono ?_);rintro e w3 ⟨rfl,hb⟩;have HB3:=Qd HB2 hb;have HX3:=Qe HX2 hb;have HT3:=Qe HT hb;have HL3:=Qe HL hb;have HG3:=Qe HG hb;obtain ⟨y0,y1,y2,y3,y4,y5,y6,y7,y8,y9,y10,y11,y12⟩:=ca13 HX3.out;have t0:=HT3.out.at (k:=0) (v:=I J 0) rfl;have t1:=HT3.out.at (k:=1) (v:=I J 0) rfl;have t2:=HT3.out.at (k:=2) (v:=I J 0) rfl;have t3:=HT3.out.at (k:=3) (v:=G false) rfl;have l0:=HL3.out.at (k:=0) (v:=I J 0) rfl;have l1:=HL3.out.at (k:=1) (v:=I J 0) rfl;have l2:=HL3.out.at (k:=2) (v:=G false) rfl;have g0:=HG3.out.at (k:=0) (v:=I J 0) rfl;have g1:=HG3.out.at (k:=1) (v:=G false) rfl;clear hb)
 all_goals
  go_ret
  first
   |exact ⟨by simp_all[zTB,zLB,zGB],HB3.out⟩
   |exact ⟨by simp_all[zTB,zLB,zGB],HB2.out⟩
theorem imported_3 (s1 s2:ByteArray) (ty tr tmn tmx:Int) (th:Bool) (mmn mmx:Int) (mh:Bool) (gt:Int) (gm:Bool) (nb:Bool) (w:World)
  (hn:∀W,Calls QP 57 #[Qs s1,Qs s2] W fun e w'=>e=Qr (G nb)∧Below W.heap.size W w') :
  Calls QP 51 #[.agg #[Qs s1,Qs s2,I J 3,I J ty,I J tr,I J tmn,I J tmx,G th,I J mmn,I J mmx,G mh,I J gt,G gm]] w fun e w'=>e=Qr (G (nb&&(valB gt&&(ty==0)&&zTB tr tmn tmx th&&zLB mmn mmx mh)))∧Below w.heap.size w w':=by
 have HN:=fun W=>hid (hn W)
 have HI:=fun W=>hid (RVal_says gt W)
 generalize valB gt=a at *
 have HB:=hid ((QB w.heap.size w).alloc (Ql _) (Qc #[Qs s1,Qs s2,I J 3,I J ty,I J tr,I J tmn,I J tmx,G th,I J mmn,I J mmx,G mh,I J gt,G gm] 74))
 have HX:=hid (CA.new w #[Qs s1,Qs s2,I J 3,I J ty,I J tr,I J tmn,I J tmx,G th,I J mmn,I J mmx,G mh,I J gt,G gm] 74)
 have x0:=HX.out.at (k:=0) (v:=Qs s1) rfl
 have x1:=HX.out.at (k:=1) (v:=Qs s2) rfl
 clear hn
 go_enter Tryz.func51,Tryz.ntmps51
 go_upto_region 5 with (go_at_call 57;(with_reducible refine (HN _).out.mono ?_);rintro e w1 ⟨rfl,hb⟩;have HB1:=Qd HB hb;have HX1:=Qe HX hb;clear hb)
 clear x0 x1
 have HX2:=hid (((HX1.out.alloc (Qc #[I J 0,I J 0,I J 0,G false] 72)).alloc (Qc #[I J 0,I J 0,G false] 70)).alloc (Qc #[I J 0,G false] 44))
 have HB2:=hid (((HB1.out.alloc HB1.out.size (Qc #[I J 0,I J 0,I J 0,G false] 72)).alloc (by rw[size_al];have:=HB1.out.size;omega) (Qc #[I J 0,I J 0,G false] 70)).alloc (by rw[size_al,size_al];have:=HB1.out.size;omega) (Qc #[I J 0,G false] 44))
 have HT:=hid (((CA.new w1 #[I J 0,I J 0,I J 0,G false] 72).alloc (Qc #[I J 0,I J 0,G false] 70)).alloc (Qc #[I J 0,G false] 44))
 have hl:=CA.new (w1.alloc (Qc #[I J 0,I J 0,I J 0,G false] 72)) #[I J 0,I J 0,G false] 70
 rw[size_al]at hl
 have HL:=hid (hl.alloc (Qc #[I J 0,G false] 44))
 have hg:=CA.new ((w1.alloc (Qc #[I J 0,I J 0,I J 0,G false] 72)).alloc (Qc #[I J 0,I J 0,G false] 70)) #[I J 0,G false] 44
 rw[size_al,size_al]at hg
 have HG:=hid hg
 clear hl hg HX1 HB1 HX HB
 generalize ((w1.alloc (Qc #[I J 0,I J 0,I J 0,G false] 72)).alloc (Qc #[I J 0,I J 0,G false] 70)).alloc (Qc #[I J 0,G false] 44)=w2 at *
 generalize w1.heap.size=k at *
 obtain ⟨y0,y1,y2,y3,y4,y5,y6,y7,y8,y9,y10,y11,y12⟩:=ca13 HX2.out
 have t0:=HT.out.at (k:=0) (v:=I J 0) rfl
 have t1:=HT.out.at (k:=1) (v:=I J 0) rfl
 have t2:=HT.out.at (k:=2) (v:=I J 0) rfl
 have t3:=HT.out.at (k:=3) (v:=G false) rfl
 have l0:=HL.out.at (k:=0) (v:=I J 0) rfl
 have l1:=HL.out.at (k:=1) (v:=I J 0) rfl
 have l2:=HL.out.at (k:=2) (v:=G false) rfl
 have g0:=HG.out.at (k:=0) (v:=I J 0) rfl
 have g1:=HG.out.at (k:=1) (v:=G false) rfl
 go_wp2_with (go_at_call 56;(with_reducible refine (HI _).out.mono ?_);rintro e w3 ⟨rfl,rfl⟩)
 all_goals
  go_ret
  first
   |exact ⟨by simp_all[zTB,zLB,zGB],HB3.out⟩
   |exact ⟨by simp_all[zTB,zLB,zGB],HB2.out⟩
theorem imported_x (kd:Int) (hk:¬(kd=0∨kd=1∨kd=2∨kd=3)) (s1 s2:ByteArray) (ty tr tmn tmx:Int) (th:Bool) (mmn mmx:Int) (mh:Bool) (gt:Int) (gm:Bool) (nb:Bool) (w:World)
  (hn:∀W,Calls QP 57 #[Qs s1,Qs s2] W fun e w'=>e=Qr (G nb)∧Below W.heap.size W w') :
  Calls QP 51 #[.agg #[Qs s1,Qs s2,I J kd,I J ty,I J tr,I J tmn,I J tmx,G th,I J mmn,I J mmx,G mh,I J gt,G gm]] w fun e w'=>e=Qr (G (nb&&(false)))∧Below w.heap.size w w':=by
 have HN:=fun W=>hid (hn W)
 have HB:=hid ((QB w.heap.size w).alloc (Ql _) (Qc #[Qs s1,Qs s2,I J kd,I J ty,I J tr,I J tmn,I J tmx,G th,I J mmn,I J mmx,G mh,I J gt,G gm] 74))
 have HX:=hid (CA.new w #[Qs s1,Qs s2,I J kd,I J ty,I J tr,I J tmn,I J tmx,G th,I J mmn,I J mmx,G mh,I J gt,G gm] 74)
 have x0:=HX.out.at (k:=0) (v:=Qs s1) rfl
 have x1:=HX.out.at (k:=1) (v:=Qs s2) rfl
 clear hn
 go_enter Tryz.func51,Tryz.ntmps51
 go_upto_region 5 with (go_at_call 57;(with_reducible refine (HN _).out.mono ?_);rintro e w1 ⟨rfl,hb⟩;have HB1:=Qd HB hb;have HX1:=Qe HX hb;clear hb)
 clear x0 x1
 have HX2:=hid (((HX1.out.alloc (Qc #[I J 0,I J 0,I J 0,G false] 72)).alloc (Qc #[I J 0,I J 0,G false] 70)).alloc (Qc #[I J 0,G false] 44))
 have HB2:=hid (((HB1.out.alloc HB1.out.size (Qc #[I J 0,I J 0,I J 0,G false] 72)).alloc (by rw[size_al];have:=HB1.out.size;omega) (Qc #[I J 0,I J 0,G false] 70)).alloc (by rw[size_al,size_al];have:=HB1.out.size;omega) (Qc #[I J 0,G false] 44))
 have HT:=hid (((CA.new w1 #[I J 0,I J 0,I J 0,G false] 72).alloc (Qc #[I J 0,I J 0,G false] 70)).alloc (Qc #[I J 0,G false] 44))
 have hl:=CA.new (w1.alloc (Qc #[I J 0,I J 0,I J 0,G false] 72)) #[I J 0,I J 0,G false] 70
 rw[size_al]at hl
 have HL:=hid (hl.alloc (Qc #[I J 0,G false] 44))
 have hg:=CA.new ((w1.alloc (Qc #[I J 0,I J 0,I J 0,G false] 72)).alloc (Qc #[I J 0,I J 0,G false] 70)) #[I J 0,G false] 44
 rw[size_al,size_al]at hg
 have HG:=hid hg
 clear hl hg HX1 HB1 HX HB
 generalize ((w1.alloc (Qc #[I J 0,I J 0,I J 0,G false] 72)).alloc (Qc #[I J 0,I J 0,G false] 70)).alloc (Qc #[I J 0,G false] 44)=w2 at *
 generalize w1.heap.size=k at *
 obtain ⟨y0,y1,y2,y3,y4,y5,y6,y7,y8,y9,y10,y11,y12⟩:=ca13 HX2.out
 have t0:=HT.out.at (k:=0) (v:=I J 0) rfl
 have t1:=HT.out.at (k:=1) (v:=I J 0) rfl
 have t2:=HT.out.at (k:=2) (v:=I J 0) rfl
 have t3:=HT.out.at (k:=3) (v:=G false) rfl
 have l0:=HL.out.at (k:=0) (v:=I J 0) rfl
 have l1:=HL.out.at (k:=1) (v:=I J 0) rfl
 have l2:=HL.out.at (k:=2) (v:=G false) rfl
 have g0:=HG.out.at (k:=0) (v:=I J 0) rfl
 have g1:=HG.out.at (k:=1) (v:=G false) rfl
 have k0:kd≠0:=fun h=>hk (.inl h)
 have k1:kd≠1:=fun h=>hk (.inr (.inl h))
 have k2:kd≠2:=fun h=>hk (.inr (.inr (.inl h)))
 have k3:kd≠3:=fun h=>hk (.inr (.inr (.inr h)))
 clear hk
 go_wp2
 all_goals
  go_ret
  first
   |exact ⟨by simp_all[zTB,zLB,zGB],HB3.out⟩
   |exact ⟨by simp_all[zTB,zLB,zGB],HB2.out⟩
def impP (kd ty tr tmn tmx:Int) (th:Bool) (mmn mmx:Int) (mh:Bool) (gt:Int) (gm:Bool) (v:Bool):Bool :=
 if kd=0 then idxB ty&&(zTB tr tmn tmx th&&zLB mmn mmx mh&&zGB gt gm)&&v
 else if kd=1 then (refB tr&&limB tmn tmx th)&&((ty==0)&&zLB mmn mmx mh&&zGB gt gm)&&v
 else if kd=2 then limB mmn mmx mh&&((ty==0)&&zTB tr tmn tmx th&&zGB gt gm)&&v
 else if kd=3 then valB gt&&((ty==0)&&zTB tr tmn tmx th&&zLB mmn mmx mh)&&v
 else false
def impR (kd ty tr tmn tmx:Int) (th:Bool) (mmn mmx:Int) (mh:Bool) (gt:Int) (gm:Bool) (v:Bool):Bool :=
 v&&(if kd=0 then idxR ty&&zTB tr tmn tmx th&&zLB mmn mmx mh&&zGB gt gm
 else if kd=1 then refB tr&&limR tmn tmx th&&(ty==0)&&zLB mmn mmx mh&&zGB gt gm
 else if kd=2 then limR mmn mmx mh&&(ty==0)&&zTB tr tmn tmx th&&zGB gt gm
 else if kd=3 then valB gt&&(ty==0)&&zTB tr tmn tmx th&&zLB mmn mmx mh
 else false)
theorem imp_eq (kd ty tr tmn tmx:Int) (th:Bool) (mmn mmx:Int) (mh:Bool) (gt:Int) (gm v:Bool)
  (h1:-9223372036854775808≤ty) (h2:ty<9223372036854775808) (h3:-9223372036854775808≤tmn) (h4:tmn<9223372036854775808)
  (h5:-9223372036854775808≤tmx) (h6:tmx<9223372036854775808) (h7:-9223372036854775808≤mmn) (h8:mmn<9223372036854775808)
  (h9:-9223372036854775808≤mmx) (h10:mmx<9223372036854775808) :
  impP kd ty tr tmn tmx th mmn mmx mh gt gm v=impR kd ty tr tmn tmx th mmn mmx mh gt gm v:=by
 unfold impP impR
 rw[idx_eq ty h1 h2,lim_eq tmn tmx th h3 h4 h5 h6,lim_eq mmn mmx mh h7 h8 h9 h10]
 generalize idxR ty=a
 generalize zTB tr tmn tmx th=b
 generalize zLB mmn mmx mh=c
 generalize zGB gt gm=d
 generalize refB tr=e
 generalize limR tmn tmx th=f
 generalize limR mmn mmx mh=g
 generalize valB gt=i
 generalize (ty==0)=j
 split
 ·cases v<;>cases a<;>cases b<;>cases c<;>cases d<;>rfl
 split
 ·cases v<;>cases e<;>cases f<;>cases j<;>cases c<;>cases d<;>rfl
 split
 ·cases v<;>cases g<;>cases j<;>cases b<;>cases d<;>rfl
 split
 ·cases v<;>cases i<;>cases j<;>cases b<;>cases c<;>rfl
 cases v<;>rfl
theorem isImport_says (s1 s2:ByteArray) (kd ty tr tmn tmx:Int) (th:Bool) (mmn mmx:Int) (mh:Bool) (gt:Int) (gm:Bool) (v1 v2:Bool) (w:World)
  (h1:∀W,Calls QP 147 #[Qs s1] W fun e w'=>e=Qr (G v1)∧Below W.heap.size W w') (h2:∀W,Calls QP 147 #[Qs s2] W fun e w'=>e=Qr (G v2)∧Below W.heap.size W w') :
  Calls QP 33 #[.agg #[Qs s1,Qs s2,I J kd,I J ty,I J tr,I J tmn,I J tmx,G th,I J mmn,I J mmx,G mh,I J gt,G gm]] w fun e w'=>e=Qr (G (impP kd ty tr tmn tmx th mmn mmx mh gt gm (v1&&v2)))∧Below w.heap.size w w':=by
 by_cases k0:kd=0
 ·subst k0
  refine (isImport_0 s1 s2 ty tr tmn tmx th mmn mmx mh gt gm v1 v2 w h1 h2).mono ?_
  rintro e w' ⟨rfl,hb⟩
  exact ⟨by rw[impP,if_pos rfl,Bool.and_assoc _ v1 v2],hb⟩
 by_cases k1:kd=1
 ·subst k1
  refine (isImport_1 s1 s2 ty tr tmn tmx th mmn mmx mh gt gm v1 v2 w h1 h2).mono ?_
  rintro e w' ⟨rfl,hb⟩
  exact ⟨by rw[impP,if_neg (by decide),if_pos rfl,Bool.and_assoc _ v1 v2],hb⟩
 by_cases k2:kd=2
 ·subst k2
  refine (isImport_2 s1 s2 ty tr tmn tmx th mmn mmx mh gt gm v1 v2 w h1 h2).mono ?_
  rintro e w' ⟨rfl,hb⟩
  exact ⟨by rw[impP,if_neg (by decide),if_neg (by decide),if_pos rfl,Bool.and_assoc _ v1 v2],hb⟩
 by_cases k3:kd=3
 ·subst k3
  refine (isImport_3 s1 s2 ty tr tmn tmx th mmn mmx mh gt gm v1 v2 w h1 h2).mono ?_
  rintro e w' ⟨rfl,hb⟩
  exact ⟨by rw[impP,if_neg (by decide),if_neg (by decide),if_neg (by decide),if_pos rfl,Bool.and_assoc _ v1 v2],hb⟩
 refine (isImport_else s1 s2 kd ty tr tmn tmx th mmn mmx mh gt gm w k0 k1 k2 k3).mono ?_
 rintro e w' ⟨rfl,hb⟩
 exact ⟨by rw[impP,if_neg k0,if_neg k1,if_neg k2,if_neg k3],hb⟩
theorem imported_says (s1 s2:ByteArray) (kd ty tr tmn tmx:Int) (th:Bool) (mmn mmx:Int) (mh:Bool) (gt:Int) (gm:Bool) (nb:Bool) (w:World)
  (hn:∀W,Calls QP 57 #[Qs s1,Qs s2] W fun e w'=>e=Qr (G nb)∧Below W.heap.size W w') :
  Calls QP 51 #[.agg #[Qs s1,Qs s2,I J kd,I J ty,I J tr,I J tmn,I J tmx,G th,I J mmn,I J mmx,G mh,I J gt,G gm]] w fun e w'=>e=Qr (G (impR kd ty tr tmn tmx th mmn mmx mh gt gm nb))∧Below w.heap.size w w':=by
 by_cases k0:kd=0
 ·subst k0
  refine (imported_0 s1 s2 ty tr tmn tmx th mmn mmx mh gt gm nb w hn).mono ?_
  rintro e w' ⟨rfl,hb⟩
  exact ⟨by rw[impR,if_pos rfl],hb⟩
 by_cases k1:kd=1
 ·subst k1
  refine (imported_1 s1 s2 ty tr tmn tmx th mmn mmx mh gt gm nb w hn).mono ?_
  rintro e w' ⟨rfl,hb⟩
  exact ⟨by rw[impR,if_neg (by decide),if_pos rfl],hb⟩
 by_cases k2:kd=2
 ·subst k2
  refine (imported_2 s1 s2 ty tr tmn tmx th mmn mmx mh gt gm nb w hn).mono ?_
  rintro e w' ⟨rfl,hb⟩
  exact ⟨by rw[impR,if_neg (by decide),if_neg (by decide),if_pos rfl],hb⟩
 by_cases k3:kd=3
 ·subst k3
  refine (imported_3 s1 s2 ty tr tmn tmx th mmn mmx mh gt gm nb w hn).mono ?_
  rintro e w' ⟨rfl,hb⟩
  exact ⟨by rw[impR,if_neg (by decide),if_neg (by decide),if_neg (by decide),if_pos rfl],hb⟩
 refine (imported_x kd (by omega) s1 s2 ty tr tmn tmx th mmn mmx mh gt gm nb w hn).mono ?_
 rintro e w' ⟨rfl,hb⟩
 exact ⟨by rw[impR,if_neg k0,if_neg k1,if_neg k2,if_neg k3],hb⟩
theorem info5:(Tryz.prog.info? 5).map (fun i=>(i.zero,i.size,i.bytes))=some (some (.int .u8 0),1,1):=by kernel_rfl
def BytesAt (B:Nat) (w:World) (v:Value) (l:List UInt8):Prop :=
 (v=V none 0 0∧l=[]) ∨
 ∃g off cap,v=V (some ⟨g,off,none⟩) l.length cap∧g<B∧l.length≤cap∧(cap≤9223372036854775807∧l.length≤140737488351232) ∧
  ∀j u,l[j]?=some u→w.cell? ⟨g,off+j,none⟩=some (.int .u8 u.toNat)
theorem BytesAt.mono {B B':Nat} {w:World} {v:Value} {l:List UInt8} (h:BytesAt B w v l) (hB:B≤B'):BytesAt B' w v l:=by
 rcases h with h|⟨g,off,cap,h1,h2,h3⟩
 ·exact .inl h
 exact .inr ⟨g,off,cap,h1,by omega,h3⟩
theorem BytesAt.below {B:Nat} {w w':World} {v:Value} {l:List UInt8} (h:BytesAt B w v l) (hb:Below B w w'):BytesAt B w' v l:=by
 rcases h with h|⟨g,off,cap,h1,h2,h3,h4,h5⟩
 ·exact .inl h
 exact .inr ⟨g,off,cap,h1,h2,h3,h4,fun j u hj=>by rw[hb.cell (p:=⟨g,off+j,none⟩) h2];exact h5 j u hj⟩
theorem byteCells_one (l:List UInt8):∀u∈QY l,u.oneCell'=true:=by
 intro u hu
 simp only[QY,List.mem_map]at hu
 obtain ⟨b,_,rfl⟩:=hu
 rfl
theorem addr_add (g off j:Nat):(⟨g,off,none⟩:Addr).add j=⟨g,off+j,none⟩:=by unfold Addr.add;split<;>simp_all
theorem cells_of_bytes {w:World} {g off:Nat} {l:List UInt8} (h:∀j u,l[j]?=some u→w.cell? ⟨g,off+j,none⟩=some (.int .u8 u.toNat)) :
  ∀j u,(QY l)[j]?=some u→w.cell? ((⟨g,off,none⟩:Addr).add j)=some u:=by
 intro j u hj
 rw[addr_add]
 simp only[QY,List.getElem?_map,Option.map_eq_some_iff]at hj
 obtain ⟨b,hb,rfl⟩:=hj
 exact h j b hb
theorem copied_any (B:Nat) (v:Value) (l:List UInt8) (m:Nat) (w:World) (hv:BytesAt B w v l) (hB:B≤w.heap.size) (hm:m≤100) (hl:l.length+100≤140737488355328) :
  Calls QP 229 #[v,I J m] w fun e w'=>∃v',e=Qr v'∧w'.ownsRow w.heap.size 5 1 v' l.length (QY l)∧Below w.heap.size w w':=by
 obtain ⟨i0,hi,hz0,hz1,hz2⟩:=info_parts info5
 have hbl:=Lib.byteCells_length l
 rcases hv with ⟨rfl,rfl⟩|⟨g,off,cap,rfl,hg,hlc,hc,hcell⟩
 ·go_enter Tryz.func229,Tryz.ntmps229
  go_wp2_with (first
   |(at_make;refine wpList_make_own _ rfl _ _ 52 rfl w.heap.size 5 i0 (.int .u8 0) 1 Tryz.underlying52 hi hz0 hz1 .i64 .i64 _ m rfl rfl (by omega) (by rw[hz2];omega) (by unfold maxLen;omega) (Ql _) ?_;intro w1 hown1 hgrow1)
   |(at_builtin;refine wpList_append_own_none rfl _ _ 52 rfl w.heap.size 5 i0 1 Tryz.underlying52 hi _ _ _ rfl hown1 rfl ?_))
  go_ret
  exact ⟨_,rfl,hown1,(QB _ _).grown hgrow1 (Ql _) (fun k hk=>by cases hk)⟩
 go_enter Tryz.func229,Tryz.ntmps229
 go_wp2_with (first
  |(at_make;refine wpList_make_own _ rfl _ _ 52 rfl w.heap.size 5 i0 (.int .u8 0) 1 Tryz.underlying52 hi hz0 hz1 .i64 .i64 _ (l.length+m) rfl rfl (by omega) (by rw[hz2];omega) (by unfold maxLen;omega) (Ql _) ?_;intro w1 hown1 hgrow1)
  |(at_builtin;refine wpList_append_own _ rfl _ _ 52 rfl w.heap.size 5 i0 (.int .u8 0) 1 1 Tryz.underlying52 hi hz0 hz1 hz2 rfl (by decide) _ _ _ rfl hown1 ⟨g,off,none⟩ l.length cap (QY l) rfl (by rw[hbl];omega) ?c1 (byteCells_one l) ?c3 ?c4 ?c5 ?_))
 case c1=>exact cells_of_bytes fun j u hj=>by rw[World.cell?_of_block (hgrow1.block g (by omega) (by simp))];exact hcell j u hj
 case c3=>unfold maxLen;omega
 case c4=>omega
 case c5=>exact hgrow1.size
 intro v' w2 hown2 hgrow2 _
 go_wp2
 go_ret
 refine ⟨v',rfl,hown2,((QB _ _).grown hgrow1 (Ql _) (fun k hk=>by cases hk)).grown hgrow2 hgrow1.size (fun k hk=>(hown1.lt k hk).1)⟩
theorem append_byte {w:World} {ops:Array Oper} {rest:List Oper} {o:Oper} {a:Act} {Q:Exit→Act→World→Prop} (hgd:o.guard=none) (s x:Operand)
  (ho:o.op=.call { callee:=.builtin .append,args:=#[s,x],argTypes:=#[52,52] }) (W:World) (base:Nat) (v:Value) (n:Nat) (xs:List Value) (q:Int)
  (hown:w.ownsRow base 5 1 v n xs) (hb:Below base W w) (hbase:base≤w.heap.size) (hn:n+1≤140737488355328) (hs:a.eval s=v) (hx:a.eval x=V (some ⟨w.heap.size,0,none⟩) 1 1)
  (h:∀v' w',w'.ownsRow base 5 1 v' (n+1) (xs++[.int .u8 q])→Below base W w'→base≤w'.heap.size→wpList QP ops Q rest (a.put o.dst v') w') :
  wpList QP ops Q (o::rest) a (w.alloc (Qc #[.int .u8 q] 5)):=by
 obtain ⟨i0,hi,hz0,hz1,hz2⟩:=info_parts info5
 have hb1:=hb.alloc hbase (Qc #[.int .u8 q] 5)
 refine wpList_append_own _ hgd s x 52 ho base 5 i0 (.int .u8 0) 1 1 Tryz.underlying52 hi hz0 hz1 hz2 rfl (by decide) v n xs hs (hown.alloc _) ⟨w.heap.size,0,none⟩ 1 1 [.int .u8 q] hx rfl (cell_one_new _ _ _)
  (fun u hu=>by simp at hu;subst hu;rfl) (by unfold maxLen;omega) (by omega) (by simp;omega) ?_
 intro v' w1 hown' hgrow _
 have hb2:=hb1.grown hgrow (by simp;omega) (fun k hk=>(hown.lt k hk).1)
 exact h v' w1 hown' hb2 (by have:=hgrow.size;simp at this;omega)
theorem BytesAt.len {B:Nat} {w:World} {v:Value} {l:List UInt8} (h:BytesAt B w v l):l.length≤140737488351232:=by
 rcases h with ⟨_,rfl⟩|⟨_,_,_,_,_,_,h,_⟩
 ·simp
 exact h.2
theorem ownsRow_mono {w:World} {base base':Nat} {e:TypeId} {size:Nat} {v:Value} {n:Nat} {xs:List Value} (h:w.ownsRow base e size v n xs) (hb:base'≤base):w.ownsRow base' e size v n xs:=by
 refine ⟨h.1,?_⟩
 rcases h.2 with h|⟨g,cap,cur,h1,h2,h3⟩
 ·exact .inl h
 exact .inr ⟨g,cap,cur,h1,by omega,h3⟩
theorem bytes_of_owned {w:World} {base:Nat} {v:Value} {l:List UInt8} (h:w.ownsRow base 5 1 v l.length (QY l)) (hl:l.length≤140737488351232):BytesAt w.heap.size w v l:=by
 rcases h.2 with ⟨h1,h2⟩|⟨g,cap,cur,rfl,h2,h3,h4,h5,h6,h7⟩
 ·exact .inl ⟨h1,List.eq_nil_of_length_eq_zero h2⟩
 refine .inr ⟨g,0,cap,rfl,(Array.getElem?_eq_some_iff.1 h3).1,h4,⟨by unfold maxLen at h5;omega,hl⟩,fun j u hj=>?_⟩
 have hlt:j<l.length:=by
  rcases Nat.lt_or_ge j l.length with h|h
  ·exact h
  rw[List.getElem?_eq_none h]at hj;cases hj
 rw[Nat.zero_add,h.cellAt j (by omega)]
 simp only[QY,List.getElem?_map,hj,Option.map_some]
def BytesIn (B:Nat) (w:World) (v:Value) (l:List UInt8):Prop:=BytesAt B w v l∨∃x c,v=V (some x) 0 c∧l=[]
theorem BytesIn.below {B:Nat} {w w':World} {v:Value} {l:List UInt8} (h:BytesIn B w v l) (hb:Below B w w'):BytesIn B w' v l:=h.imp (fun h=>h.below hb) (fun h=>h)
theorem BytesIn.mono {B B':Nat} {w:World} {v:Value} {l:List UInt8} (h:BytesIn B w v l) (hB:B≤B'):BytesIn B' w v l:=h.imp (fun h=>h.mono hB) (fun h=>h)
theorem BytesIn.len {B:Nat} {w:World} {v:Value} {l:List UInt8} (h:BytesIn B w v l):l.length≤140737488351232:=by
 rcases h with h|⟨_,_,_,rfl⟩
 ·exact h.len
 simp
theorem copied_in (B:Nat) (v:Value) (l:List UInt8) (m:Nat) (w:World) (hv:BytesIn B w v l) (hB:B≤w.heap.size) (hm:m≤100) (hl:l.length+100≤140737488355328) :
  Calls QP 229 #[v,I J m] w fun e w'=>∃v',e=Qr v'∧w'.ownsRow w.heap.size 5 1 v' l.length (QY l)∧Below w.heap.size w w':=by
 rcases hv with hv|⟨x,cap,rfl,rfl⟩
 ·exact copied_any B v l m w hv hB hm hl
 obtain ⟨i0,hi,hz0,hz1,hz2⟩:=info_parts info5
 go_enter Tryz.func229,Tryz.ntmps229
 go_wp2_with (first
  |(at_make;refine wpList_make_own _ rfl _ _ 52 rfl w.heap.size 5 i0 (.int .u8 0) 1 Tryz.underlying52 hi hz0 hz1 .i64 .i64 _ m rfl rfl (by omega) (by rw[hz2];omega) (by unfold maxLen;omega) (Ql _) ?_;intro w1 hown1 hgrow1)
  |(at_builtin;refine wpList_append_own _ rfl _ _ 52 rfl w.heap.size 5 i0 (.int .u8 0) 1 1 Tryz.underlying52 hi hz0 hz1 hz2 rfl (by decide) _ _ _ rfl hown1 x 0 cap [] rfl rfl (fun j u hj=>by cases hj) (fun u hu=>by cases hu) ?c3 ?c4 ?c5 ?_))
 case c3=>unfold maxLen;omega
 case c4=>omega
 case c5=>exact hgrow1.size
 intro v' w2 hown2 hgrow2 _
 go_wp2
 go_ret
 refine ⟨v',rfl,hown2,((QB _ _).grown hgrow1 (Ql _) (fun k hk=>by cases hk)).grown hgrow2 hgrow1.size (fun k hk=>(hown1.lt k hk).1)⟩
section
open Go
def vfrom (s:ByteArray):Nat→Nat→Bool
 |0,_=>true
 |f+1,i=>if i<s.size then (if (Utf8.decode s i).1=65533∧(Utf8.decode s i).2=1 then false else vfrom s f (i+(Utf8.decode s i).2)) else true
theorem vfrom_end (s:ByteArray) (f i:Nat) (h:¬i<s.size):vfrom s f i=true:=by
 cases f with
 |zero=>rfl
 |succ f=>rw[vfrom,if_neg h]
theorem width_pos (s:ByteArray) (pos:Nat) (h:pos<s.size):1≤(Utf8.decode s pos).2:=by
 by_cases ha:(s[pos]'h).toNat<128
 ·rw[decode_ascii s pos h ha]
  exact Ql _
 exact (decode_high s pos h (by omega)).2
theorem get_byte (s:ByteArray) (i:Nat):(s.get! i).toNat=((s.data.toList[i]?).map UInt8.toNat).getD 0:=by
 by_cases h:i<s.size
 ·have h2:i<s.data.size:=h
  have e:s.get! i=s.data[i]:=by
   show s.data[i]! = _
   exact getElem!_pos s.data i h2
  rw[e,List.getElem?_eq_getElem (by simpa using h2)]
  simp
 have h2:¬i<s.data.size:=h
 have e:s.get! i=0:=by
  show s.data[i]! = _
  exact getElem!_neg s.data i h2
 rw[e,List.getElem?_eq_none (by simpa using h2)]
 rfl
theorem decodeN_fffd (n b0 b1 b2 b3:Nat) (h0:b0<256) (hc:(Lib.decodeN n b0 b1 b2 b3).1=65533) :
  (Lib.decodeN n b0 b1 b2 b3).2≠1↔(2<n∧b0=239∧b1=191∧b2=189):=by
 revert hc
 unfold Lib.decodeN
 by_cases c0:b0<128
 ·rw[if_pos c0];intro hc;simp only at hc;omega
 rw[if_neg c0]
 by_cases c1:b0 / 32=6∧(1<n∧b1 / 64=2)
 ·rw[if_pos c1]
  split
  ·intro hc;simp only at hc;omega
  intro _;simp;omega
 rw[if_neg c1]
 by_cases c2:b0 / 16=14∧(1<n∧b1 / 64=2)∧(2<n∧b2 / 64=2)
 ·rw[if_pos c2]
  split
  ·intro hc;simp only at hc;simp;omega
  intro _;simp;omega
 rw[if_neg c2]
 by_cases c3:b0 / 8=30∧(1<n∧b1 / 64=2)∧(2<n∧b2 / 64=2)∧(3<n∧b3 / 64=2)
 ·rw[if_pos c3]
  split
  ·intro hc;simp only at hc;omega
  intro _;simp;omega
 rw[if_neg c3]
 intro _;simp;omega
theorem take3_iff (l:List UInt8) (pos:Nat):(l.drop pos).take 3=[239,191,189] ↔
  (pos+2<l.length∧((l[pos]?).map UInt8.toNat).getD 0=239∧((l[pos+1]?).map UInt8.toNat).getD 0=191∧((l[pos+2]?).map UInt8.toNat).getD 0=189):=by
 constructor
 ·intro h
  have hlen:=congrArg List.length h
  simp only[List.length_take,List.length_drop,List.length_cons,List.length_nil]at hlen
  have e:∀j,j<3→l[pos+j]?=([239,191,189]:List UInt8)[j]?:=by
   intro j hj
   rw[←h,List.getElem?_take,if_pos hj,List.getElem?_drop]
  have e0:=e 0 (by omega)
  have e1:=e 1 (by omega)
  have e2:=e 2 (by omega)
  simp only[Nat.add_zero]at e0
  rw[e0,e1,e2]
  exact ⟨by omega,rfl,rfl,rfl⟩
 rintro ⟨hl,h0,h1,h2⟩
 rw[List.getElem?_eq_getElem (by omega)]at h0 h1 h2
 simp only[Option.map_some,Option.getD_some]at h0 h1 h2
 rw[List.drop_eq_getElem_cons (by omega),List.drop_eq_getElem_cons (by omega),List.drop_eq_getElem_cons (by omega)]
 simp only[List.take_succ_cons,List.take_zero]
 have f0:l[pos]=239:=UInt8.toNat_inj.1 h0
 have f1:l[pos+1]=191:=UInt8.toNat_inj.1 h1
 have f2:l[pos+1+1]=189:=UInt8.toNat_inj.1 h2
 rw[f0,f1,f2]
theorem fffd_iff (s:ByteArray) (pos:Nat) (hc:(Utf8.decode s pos).1=65533):(s.data.toList.drop pos).take 3=[239,191,189]↔¬(Utf8.decode s pos).2=1:=by
 have hb:∀i,(s.get! i).toNat<256:=fun i=>(s.get! i).toNat_lt
 rw[Lib.decode_at]at hc ⊢
 rw[show (¬(Lib.decodeN (s.size-pos) (s.get! pos).toNat (s.get! (pos+1)).toNat (s.get! (pos+2)).toNat (s.get! (pos+3)).toNat).2=1)↔_ from decodeN_fffd _ _ _ _ _ (hb _) hc,take3_iff,←get_byte,←get_byte,←get_byte]
 have:s.data.toList.length=s.size:=rfl
 rw[this]
 constructor
 ·rintro ⟨a,b⟩;exact ⟨by omega,b⟩
 rintro ⟨a,b⟩;exact ⟨by omega,b⟩
end
theorem begins_any (x:ByteArray) (w:World) (hx:x.size≤9223372036854775807) :
  Calls QP 212 #[Qs x,Qs ⟨#[239,191,189]⟩] w fun e w'=>e=Qr (G (decide (x.data.toList.take 3=[239,191,189])))∧w=w':=by
 by_cases h3:3≤x.size
 ·have hd:decide ((3:Int)≤(x.size:Int))=true:=by simp;omega
  go_enter Tryz.func212,Tryz.ntmps212
  go_wp2
  go_ret
  refine ⟨?_,rfl⟩
  show Ending.returned (G ((x.extract 0 3).toList==[239,191,189]))=_
  rw[Lib.extract_toList]
  simp only[List.drop_zero,Nat.sub_zero]
  congr 2
  rw[Bool.eq_iff_iff]
  simp
 have hd:decide ((3:Int)≤(x.size:Int))=false:=by simp;omega
 go_enter Tryz.func212,Tryz.ntmps212
 go_wp2
 go_ret
 refine ⟨?_,rfl⟩
 have:¬(x.data.toList.take 3=[239,191,189]):=by
  intro h
  have hl:=congrArg List.length h
  have e:x.data.toList.length=x.size:=rfl
  rw[List.length_take,e]at hl
  simp at hl
  omega
 show Ending.returned (G false)=_
 simp[this]
theorem Valid_any (s:ByteArray) (w:World) (hs:s.size≤9223372036854775807) :
  Calls QP 147 #[Qs s] w fun e w'=>e=Qr (G (vfrom s s.size 0))∧Below w.heap.size w w':=by
 go_enter Tryz.func147,Tryz.ntmps147
 go_wp2
 go_loopw [3,4] (fun _ _ wr=>∃(pos fuel:Nat),wr.heap[w.heap.size]?=some (.stringIter s pos)∧Below w.heap.size w wr∧s.size≤pos+fuel∧vfrom s s.size 0=vfrom s fuel pos) (fun _ _ wr=>s.size-wr.iterPos w.heap.size)
 case atStart=>exact ⟨0,s.size,World.iter_heap w s 0,(QB _ w).alloc (Ql _) _,by omega,rfl⟩
 obtain ⟨pos,fuel,hit,hbw,hfu,hv⟩:=hrel
 have hsz:w.heap.size<wr.heap.size:=(Array.getElem?_eq_some_iff.1 hit).1
 have HV:=hid hv
 clear hv
 by_cases hp:pos<s.size
 ·have hnx:∀ty,(Instr.next (Qp (some ⟨w.heap.size,0,none⟩)) true ty).run QP wr=_:=fun ty=>Lib.run_next_any_at wr w.heap.size s pos ty hit hp
  have hwd:=width_pos s pos hp
  have hd1:=decode_le s pos
  have hit2:=Lib.iterAt_heap wr w.heap.size s pos (pos+(Utf8.decode s pos).2) hit
  have hbw2:=Lib.below_iterAt hbw (k:=w.heap.size) (Ql _) s (pos+(Utf8.decode s pos).2)
  obtain ⟨f,rfl⟩:∃f,fuel=f+1:=⟨fuel-1,by omega⟩
  by_cases hc:(Utf8.decode s pos).1=65533
  ·have hf:=fffd_iff s pos hc
   have hx:(s.extract pos s.size).data.toList=s.data.toList.drop pos:=by
    have e:s.data.toList.length=s.size:=rfl
    rw[Lib.extract_data,List.take_of_length_le (by rw[List.length_drop,e];omega)]
   have hxs:(s.extract pos s.size).size≤9223372036854775807:=by
    have e:(s.extract pos s.size).size=(s.extract pos s.size).data.toList.length:=rfl
    have e2:s.data.toList.length=s.size:=rfl
    rw[e,hx,List.length_drop,e2];omega
   by_cases hw1:(Utf8.decode s pos).2=1
   ·have hB:∀W,Calls QP 212 #[Qs (s.extract pos s.size),Qs ⟨#[239,191,189]⟩] W fun e w'=>e=Qr (G false)∧W=w':=fun W =>
     (begins_any _ W hxs).mono fun e w' ⟨h1,h2⟩=>⟨by rw[h1,hx];simp only[hf,hw1];rfl,h2⟩
    have hstep:Hid (vfrom s (f+1) pos=false):=hid (by rw[vfrom,if_pos hp,if_pos ⟨hc,hw1⟩])
    have HB:=hid hB
    have hcb:(((Utf8.decode s pos).1:Int)==65533)=true:=by simp;omega
    clear hB hf hx hxs hc hw1
    go_wp2_with (go_at_call 212;refine (HB.out _).mono ?_;rintro en w1 ⟨rfl,rfl⟩)
    go_ret
    exact ⟨by rw[HV.out,hstep.out];rfl,hbw2⟩
   have hB:∀W,Calls QP 212 #[Qs (s.extract pos s.size),Qs ⟨#[239,191,189]⟩] W fun e w'=>e=Qr (G true)∧W=w':=fun W =>
    (begins_any _ W hxs).mono fun e w' ⟨h1,h2⟩=>⟨by rw[h1,hx];simp only[hf,hw1];rfl,h2⟩
   have hstep:Hid (vfrom s (f+1) pos=vfrom s f (pos+(Utf8.decode s pos).2)):=hid (by rw[vfrom,if_pos hp,if_neg (by rintro ⟨_,h⟩;exact hw1 h)])
   have HB:=hid hB
   have hcb:(((Utf8.decode s pos).1:Int)==65533)=true:=by simp;omega
   clear hB hf hx hxs hc hw1
   go_wp2_with (go_at_call 212;refine (HB.out _).mono ?_;rintro en w1 ⟨rfl,rfl⟩)
   refine ⟨⟨pos+(Utf8.decode s pos).2,f,hit2,hbw2,by omega,by rw[HV.out,hstep.out]⟩,?_⟩
   simp only[World.iterPos,hit,hit2]
   omega
  have hstep:Hid (vfrom s (f+1) pos=vfrom s f (pos+(Utf8.decode s pos).2)):=hid (by rw[vfrom,if_pos hp,if_neg (by rintro ⟨h,_⟩;exact hc h)])
  have hcb:(((Utf8.decode s pos).1:Int)==65533)=false:=by simp;omega
  have HC:=hid hc
  clear hc
  go_wp2
  refine ⟨⟨pos+(Utf8.decode s pos).2,f,hit2,hbw2,by omega,by rw[HV.out,hstep.out]⟩,?_⟩
  simp only[World.iterPos,hit,hit2]
  omega
 have hnx:∀ty,(Instr.next (Qp (some ⟨w.heap.size,0,none⟩)) true ty).run QP wr=_:=fun ty=>Lib.run_next_end_at wr w.heap.size s pos ty hit hp
 have HE:=hid (vfrom_end s fuel pos hp)
 go_wp2
 go_ret
 exact ⟨by rw[HV.out,HE.out];rfl,hbw⟩
section
open Go
def byt (s:ByteArray) (i:Nat):Nat:=(s.get! i).toNat
theorem byt_lt (s:ByteArray) (i:Nat):byt s i<256:=(s.get! i).toNat_lt
theorem byt_eq (s:ByteArray) (i:Nat) (h:i<s.size):(s[i]'h).toNat=byt s i:=by
 have h2:i<s.data.size:=h
 have e:s.get! i=s.data[i]:=by
  show s.data[i]! = _
  exact getElem!_pos s.data i h2
 unfold byt
 rw[e]
 rfl
def cvv (s:ByteArray) (pos c0:Nat):Nat→Nat
 |0=>c0
 |j+1=>cvv s pos c0 j*64+(byt s (pos+(j+1))-128)
theorem cvv_le (s:ByteArray) (pos c0:Nat) (h:c0≤31):∀j,cvv s pos c0 j+3≤34*64^j
 |0=>by
  show c0+3≤34*1
  omega
 |j+1=>by
  have h1:=cvv_le s pos c0 h j
  have hb:=byt_lt s (pos+(j+1))
  show cvv s pos c0 j*64+(byt s (pos+(j+1))-128)+3≤_
  rw[Nat.pow_succ]
  omega
theorem cvv_small (s:ByteArray) (pos c0 j:Nat) (h:c0≤31) (hj:j≤3):cvv s pos c0 j≤10000000:=by
 have h1:=cvv_le s pos c0 h j
 have h2:64^j≤64^3:=Nat.pow_le_pow_right (by decide) hj
 have h3:(64:Nat)^3=262144:=by decide
 omega
def leastOf (n:Nat):Nat:=if n=2 then 128 else if n=3 then 2048 else 65536
def Good (s:ByteArray) (pos n c0:Nat):Prop :=
 pos+n≤s.size∧(∀j,1≤j→j<n→128≤byt s (pos+j)∧byt s (pos+j)≤191)∧leastOf n≤cvv s pos c0 (n-1)∧cvv s pos c0 (n-1)≤1114111∧¬(55295<cvv s pos c0 (n-1)∧cvv s pos c0 (n-1)<57344)
def Kind (b n c0:Nat):Prop:=(n=2∧b=c0+192∧c0<32)∨(n=3∧b=c0+224∧c0<16)∨(n=4∧b=c0+240∧c0<8)
theorem cvv_1 (s:ByteArray) (pos c0:Nat):cvv s pos c0 (2-1)=c0*64+(byt s (pos+1)-128):=rfl
theorem cvv_2 (s:ByteArray) (pos c0:Nat):cvv s pos c0 (3-1)=(c0*64+(byt s (pos+1)-128))*64+(byt s (pos+2)-128):=rfl
theorem cvv_3 (s:ByteArray) (pos c0:Nat):cvv s pos c0 (4-1)=((c0*64+(byt s (pos+1)-128))*64+(byt s (pos+2)-128))*64+(byt s (pos+3)-128):=rfl
theorem least_2:leastOf 2=128:=rfl
theorem least_3:leastOf 3=2048:=rfl
theorem least_4:leastOf 4=65536:=rfl
theorem decode_byt (s:ByteArray) (i:Nat):Utf8.decode s i=Lib.decodeN (s.size-i) (byt s i) (byt s (i+1)) (byt s (i+2)) (byt s (i+3)):=Lib.decode_at s i
theorem dec_good {s:ByteArray} {pos n c0:Nat} (hk:Kind (byt s pos) n c0) (hg:Good s pos n c0):(Utf8.decode s pos).2=n:=by
 obtain ⟨g1,g2,g3,g4,g5⟩:=hg
 have b1:=byt_lt s (pos+1)
 have b2:=byt_lt s (pos+2)
 have b3:=byt_lt s (pos+3)
 rw[decode_byt]
 rcases hk with ⟨rfl,h0,hc⟩|⟨rfl,h0,hc⟩|⟨rfl,h0,hc⟩
 ·obtain ⟨k1,k2⟩:=g2 1 (by decide) (by decide)
  rw[cvv_1]at g3 g4 g5
  rw[least_2]at g3
  unfold Lib.decodeN
  rw[if_neg (by omega),if_pos (by omega),if_pos (by omega)]
 ·obtain ⟨k1,k2⟩:=g2 1 (by decide) (by decide)
  obtain ⟨k3,k4⟩:=g2 2 (by decide) (by decide)
  rw[cvv_2]at g3 g4 g5
  rw[least_3]at g3
  unfold Lib.decodeN
  rw[if_neg (by omega),if_neg (by omega),if_pos (by omega),if_pos (by omega)]
 obtain ⟨k1,k2⟩:=g2 1 (by decide) (by decide)
 obtain ⟨k3,k4⟩:=g2 2 (by decide) (by decide)
 obtain ⟨k5,k6⟩:=g2 3 (by decide) (by decide)
 rw[cvv_3]at g3 g4 g5
 rw[least_4]at g3
 unfold Lib.decodeN
 rw[if_neg (by omega),if_neg (by omega),if_neg (by omega),if_pos (by omega),if_pos (by omega)]
theorem dec_bad {s:ByteArray} {pos n c0:Nat} (hk:Kind (byt s pos) n c0) (hg:¬Good s pos n c0):Utf8.decode s pos=(65533,1):=by
 have b1:=byt_lt s (pos+1)
 have b2:=byt_lt s (pos+2)
 have b3:=byt_lt s (pos+3)
 rw[decode_byt]
 rcases hk with ⟨rfl,h0,hc⟩|⟨rfl,h0,hc⟩|⟨rfl,h0,hc⟩
 ·have hbad:¬(pos+2≤s.size∧128≤byt s (pos+1)∧byt s (pos+1)≤191∧128≤c0*64+(byt s (pos+1)-128)):=by
   rintro ⟨a,b,c,d⟩
   refine hg ⟨a,fun j h1 h2=>(by obtain rfl:j=1:=(by omega);exact ⟨b,c⟩),?_⟩
   rw[cvv_1,least_2]
   omega
  unfold Lib.decodeN
  rw[if_neg (by omega)]
  by_cases h1:byt s pos / 32=6∧1<s.size-pos∧byt s (pos+1) / 64=2
  ·rw[if_pos h1,if_neg (by omega)]
  rw[if_neg h1,if_neg (by omega),if_neg (by omega)]
 ·have hbad:¬(pos+3≤s.size∧(128≤byt s (pos+1)∧byt s (pos+1)≤191)∧(128≤byt s (pos+2)∧byt s (pos+2)≤191) ∧
    2048≤(c0*64+(byt s (pos+1)-128))*64+(byt s (pos+2)-128)∧¬(55295<(c0*64+(byt s (pos+1)-128))*64+(byt s (pos+2)-128)∧(c0*64+(byt s (pos+1)-128))*64+(byt s (pos+2)-128)<57344)):=by
   rintro ⟨a,b,c,d,e⟩
   refine hg ⟨a,fun j h1 h2=>by
    rcases (show j=1∨j=2 by omega) with rfl|rfl
    ·exact b
    exact c,?_⟩
   rw[cvv_2,least_3]
   omega
  unfold Lib.decodeN
  rw[if_neg (by omega),if_neg (by omega)]
  by_cases h1:byt s pos / 16=14∧(1<s.size-pos∧byt s (pos+1) / 64=2)∧(2<s.size-pos∧byt s (pos+2) / 64=2)
  ·rw[if_pos h1,if_neg (by omega)]
  rw[if_neg h1,if_neg (by omega)]
 have hbad:¬(pos+4≤s.size∧(128≤byt s (pos+1)∧byt s (pos+1)≤191)∧(128≤byt s (pos+2)∧byt s (pos+2)≤191)∧(128≤byt s (pos+3)∧byt s (pos+3)≤191) ∧
   65536≤((c0*64+(byt s (pos+1)-128))*64+(byt s (pos+2)-128))*64+(byt s (pos+3)-128)∧((c0*64+(byt s (pos+1)-128))*64+(byt s (pos+2)-128))*64+(byt s (pos+3)-128)≤1114111):=by
  rintro ⟨a,b,c,d,e,f⟩
  refine hg ⟨a,fun j h1 h2=>by
   rcases (show j=1∨j=2∨j=3 by omega) with rfl|rfl|rfl
   ·exact b
   ·exact c
   exact d,?_⟩
  rw[cvv_3,least_4]
  omega
 unfold Lib.decodeN
 rw[if_neg (by omega),if_neg (by omega),if_neg (by omega)]
 by_cases h1:byt s pos / 8=30∧(1<s.size-pos∧byt s (pos+1) / 64=2)∧(2<s.size-pos∧byt s (pos+2) / 64=2)∧(3<s.size-pos∧byt s (pos+3) / 64=2)
 ·rw[if_pos h1,if_neg (by omega)]
 rw[if_neg h1]
theorem dec_none {s:ByteArray} {pos:Nat} (h:(128≤byt s pos∧byt s pos<192)∨248≤byt s pos):Utf8.decode s pos=(65533,1):=by
 have b0:=byt_lt s pos
 rw[decode_byt]
 unfold Lib.decodeN
 rw[if_neg (by omega),if_neg (by omega),if_neg (by omega),if_neg (by omega)]
theorem vfrom_bad {s:ByteArray} {f pos:Nat} (hp:pos<s.size) (h:Utf8.decode s pos=(65533,1)):vfrom s (f+1) pos=false:=by
 rw[vfrom,if_pos hp,h,if_pos ⟨rfl,rfl⟩]
theorem vfrom_good {s:ByteArray} {f pos n:Nat} (hp:pos<s.size) (h:(Utf8.decode s pos).2=n) (hn:n≠1):vfrom s (f+1) pos=vfrom s f (pos+n):=by
 rw[vfrom,if_pos hp,h,if_neg (by rintro ⟨_,h⟩;exact hn h)]
theorem vfrom_one {s:ByteArray} {f pos:Nat} (hp:pos<s.size) (h:byt s pos<128):vfrom s (f+1) pos=vfrom s f (pos+1):=by
 have e:Utf8.decode s pos=(byt s pos,1):=by
  rw[decode_byt];unfold Lib.decodeN;rw[if_pos h]
 rw[vfrom,if_pos hp,e,if_neg (by rintro ⟨h,_⟩;simp only at h;omega)]
end
end Go.Proofs.YtjgeedgphcjhoaaGreat
