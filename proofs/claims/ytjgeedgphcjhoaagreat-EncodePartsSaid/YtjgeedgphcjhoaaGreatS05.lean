/-
  Ins6, Instr, OneS, Ref1, Code, Ref2, Ones, LNums: merged, what the law does not reach left out (each text says what it holds where it lies in wip). No condition.
-/
import Derived.Test.YtjgeedgphcjhoaaGreatS04
import Derived.Test.YtjgeedgphcjhoaaGreatS03
import Derived.Test.YtjgeedgphcjhoaaGreatS01
import Derived.Test.YtjgeedgphcjhoaaGreatS02
import Derived.Laws.BitsLemmas
import Derived.Laws.Bits64
import Derived.Laws.Bits64b
import Derived.Lib.UnsafeStr
set_option linter.unusedSimpArgs false
set_option linter.unusedVariables false
set_option maxRecDepth 100000
set_option maxHeartbeats 64000000
namespace Go.Proofs.YtjgeedgphcjhoaaGreat
open Go.RowKit
open Value renaming int → I,slice → V,bool → G,string → Qs
open IntKind renaming i64 → J,u64 → O
open Ending renaming returned → Qr
open Obj renaming cells → Qc
open _root_.Go.Proofs.Tryz renaming prog → QP
open Nat renaming le_refl → Ql,le_trans → Qk,zero_le → Qz
open List renaming length_cons → QC
open Below renaming refl → QB
open Lib renaming byteCells → QY
theorem ins_1 (op a b:Int) (n h:Nat) (nl:Nat) (pl pb pe:Option Addr) (cl nb cb ne ce:Nat) (ot:Bool) (w:World)
  (hk:∀W,Calls QP 233 #[I J op] W fun e w'=>e=Qr (G true)∧Below W.heap.size W w') (hi:∀W,Calls QP 152 #[I J op] W fun e w'=>e=Qr (I J 1)∧Below W.heap.size W w') :
  Calls QP 214 #[.agg #[I J op,I J a,I J b,I O n,I O h,V pl nl cl,V pb nb cb,V pe ne ce,G ot]] w fun e w'=>e=Qr (G (blB op a b n h ot nl nb ne))∧Below w.heap.size w w':=by
 have HK:=fun W=>hid (hk W)
 have HI:=fun W=>hid (hi W)
 have HU:=fun W=>hid (isBlock_says op a b n h pl pb pe nl cl nb cb ne ce ot W)
 generalize blB op a b n h ot nl nb ne=u at *
 have HBX:=hid ((QB w.heap.size w).alloc (Ql _) (Qc #[I J op,I J a,I J b,I O n,I O h,V pl nl cl,V pb nb cb,V pe ne ce,G ot] 39))
 have HX:=hid (CA.new w #[I J op,I J a,I J b,I O n,I O h,V pl nl cl,V pb nb cb,V pe ne ce,G ot] 39)
 clear hk hi
 go_enter Tryz.func214,Tryz.ntmps214
 go_wp2_with (first
  |(go_at_call 233;(with_reducible refine (HK _).out.mono ?_);rintro e w1 ⟨rfl,hb1⟩;have HB1:=Qd HBX hb1;have HX1:=Qe HX hb1;have z0:=HX1.out.at (k:=0) (v:=I J op) rfl;clear hb1)
  |(go_at_call 152;(with_reducible refine (HI _).out.mono ?_);rintro e w2 ⟨rfl,hb2⟩;have HB2:=Qd HB1 hb2;have HX2:=Qe HX1 hb2;obtain ⟨y0,y1,y2,y3,y4,y5,y6,y7,y8⟩:=ca9 HX2.out;clear hb2)
  |(go_at_call 234;(with_reducible refine (HU _).out.mono ?_);rintro e w4 ⟨rfl,hb4⟩;have HB4:=Qd HB2 hb4;clear hb4))
 go_ret
 exact ⟨rfl,HB4.out⟩
theorem ins_26 (op a b:Int) (n h:Nat) (l:List Int) (nl:Nat) (hnl:nl=l.length) (pl pb pe:Option Addr) (cl nb cb ne ce:Nat) (ot:Bool) (B:Nat) (w:World) (hB:B≤w.heap.size) (hl:LI B w (V pl nl cl) l)
  (hk:∀W,Calls QP 233 #[I J op] W fun e w'=>e=Qr (G true)∧Below W.heap.size W w') (hi:∀W,Calls QP 152 #[I J op] W fun e w'=>e=Qr (I J 26)∧Below W.heap.size W w') :
  Calls QP 214 #[.agg #[I J op,I J a,I J b,I O n,I O h,V pl nl cl,V pb nb cb,V pe ne ce,G ot]] w fun e w'=>e=Qr (G ((idxB a&&idxB b&&((nl:Int)==1)&&byteB (l.headD 0))&&unB 0 0 n h ot 0 nb ne))∧Below w.heap.size w w':=by
 have HK:=fun W=>hid (hk W)
 have HI:=fun W=>hid (hi W)
 have HU:=fun W=>hid (isUnused_says op 0 0 n h none pb pe 0 0 nb cb ne ce ot W)
 generalize unB 0 0 n h ot 0 nb ne=u at *
 have HBX:=hid ((QB w.heap.size w).alloc (Ql _) (Qc #[I J op,I J a,I J b,I O n,I O h,V pl nl cl,V pb nb cb,V pe ne ce,G ot] 39))
 have HX:=hid (CA.new w #[I J op,I J a,I J b,I O n,I O h,V pl nl cl,V pb nb cb,V pe ne ce,G ot] 39)
 have HIA:=fun W=>hid (isIndex_says a W)
 generalize idxB a=ia at *
 have HIB:=fun W=>hid (isIndex_says b W)
 generalize idxB b=ib at *
 by_cases h1:nl=1
 ·obtain ⟨x,rfl⟩:∃x,l=[x]:=List.length_eq_one_iff.1 (by omega)
  obtain ⟨p,c,e1,-,hx⟩:=hl
  obtain ⟨g,o,e2,hg,hxx⟩:=hx (by simp)
  simp only[Value.slice.injEq]at e1
  obtain ⟨rfl,-,-⟩:=e1
  subst e2
  have HC0:=hid (hxx 0 x rfl)
  rw[Nat.add_zero]at HC0
  have HG:=hid (Nat.lt_of_lt_of_le hg hB)
  have HBY:=fun W=>hid (isByte_says x W)
  simp only[List.headD_cons]
  generalize byteB x=by' at *
  subst h1
  clear hk hi hxx hnl hx hg hB
  cases ia with
  |false =>
   go_enter Tryz.func214,Tryz.ntmps214
   go_upto_region 50 with (first
    |(go_at_call 233;(with_reducible refine (HK _).out.mono ?_);rintro e w1 ⟨rfl,hb1⟩;have HB1:=Qd HBX hb1;have HX1:=Qe HX hb1;have z0:=HX1.out.at (k:=0) (v:=I J op) rfl;clear hb1)
    |(go_at_call 152;(with_reducible refine (HI _).out.mono ?_);rintro e w2 ⟨rfl,hb2⟩;have HB2:=Qd HB1 hb2;have HX2:=Qe HX1 hb2;obtain ⟨y0,y1,y2,y3,y4,y5,y6,y7,y8⟩:=ca9 HX2.out;have f1:=HX2.out.free 1;have f2:=HX2.out.free 2;have f5:=HX2.out.free 5;clear hb2)
    |(go_at_call 145;(with_reducible refine (HIA _).out.mono ?_);rintro e w3 ⟨rfl,rfl⟩)
    |(go_at_call 145;(with_reducible refine (HIB _).out.mono ?_);rintro e w3 ⟨rfl,rfl⟩))
   have HX3:=hid (((HX2.out.set (k:=1) (I J 0)).set (k:=2) (I J 0)).set (k:=5) (V none 0 0))
   have HB3:=hid (((HB2.out.setCell (p:=⟨w.heap.size,1,none⟩) (Ql _) (I J 0)).setCell (p:=⟨w.heap.size,2,none⟩) (Ql _) (I J 0)).setCell (p:=⟨w.heap.size,5,none⟩) (Ql _) (V none 0 0))
   clear y0 y1 y2 y3 y4 y5 y6 y7 y8 f1 f2 f5
   generalize (((w2.setCell ⟨w.heap.size,1,none⟩ (I J 0)).setCell ⟨w.heap.size,2,none⟩ (I J 0)).setCell ⟨w.heap.size,5,none⟩ (V none 0 0))=W3 at *
   go_wp2
   go_ret
   exact ⟨by simp,HB3.out⟩
  |true =>
   cases ib with
   |false =>
    go_enter Tryz.func214,Tryz.ntmps214
    go_upto_region 50 with (first
     |(go_at_call 233;(with_reducible refine (HK _).out.mono ?_);rintro e w1 ⟨rfl,hb1⟩;have HB1:=Qd HBX hb1;have HX1:=Qe HX hb1;have z0:=HX1.out.at (k:=0) (v:=I J op) rfl;clear hb1)
     |(go_at_call 152;(with_reducible refine (HI _).out.mono ?_);rintro e w2 ⟨rfl,hb2⟩;have HB2:=Qd HB1 hb2;have HX2:=Qe HX1 hb2;obtain ⟨y0,y1,y2,y3,y4,y5,y6,y7,y8⟩:=ca9 HX2.out;have f1:=HX2.out.free 1;have f2:=HX2.out.free 2;have f5:=HX2.out.free 5;clear hb2)
     |(go_at_call 145;(with_reducible refine (HIA _).out.mono ?_);rintro e w3 ⟨rfl,rfl⟩)
     |(go_at_call 145;(with_reducible refine (HIB _).out.mono ?_);rintro e w3 ⟨rfl,rfl⟩))
    have HX3:=hid (((HX2.out.set (k:=1) (I J 0)).set (k:=2) (I J 0)).set (k:=5) (V none 0 0))
    have HB3:=hid (((HB2.out.setCell (p:=⟨w.heap.size,1,none⟩) (Ql _) (I J 0)).setCell (p:=⟨w.heap.size,2,none⟩) (Ql _) (I J 0)).setCell (p:=⟨w.heap.size,5,none⟩) (Ql _) (V none 0 0))
    clear y0 y1 y2 y3 y4 y5 y6 y7 y8 f1 f2 f5
    generalize (((w2.setCell ⟨w.heap.size,1,none⟩ (I J 0)).setCell ⟨w.heap.size,2,none⟩ (I J 0)).setCell ⟨w.heap.size,5,none⟩ (V none 0 0))=W3 at *
    go_wp2
    go_ret
    exact ⟨by simp,HB3.out⟩
   |true =>
    cases by' with
    |false =>
     go_enter Tryz.func214,Tryz.ntmps214
     go_upto_region 50 with (first
      |(go_at_call 233;(with_reducible refine (HK _).out.mono ?_);rintro e w1 ⟨rfl,hb1⟩;have HB1:=Qd HBX hb1;have HX1:=Qe HX hb1;have z0:=HX1.out.at (k:=0) (v:=I J op) rfl;clear hb1)
      |(go_at_call 152;(with_reducible refine (HI _).out.mono ?_);rintro e w2 ⟨rfl,hb2⟩;have HB2:=Qd HB1 hb2;have HX2:=Qe HX1 hb2;obtain ⟨y0,y1,y2,y3,y4,y5,y6,y7,y8⟩:=ca9 HX2.out;have f1:=HX2.out.free 1;have f2:=HX2.out.free 2;have f5:=HX2.out.free 5;have x0:=(HB2.out.cell (p:=⟨g,o,none⟩) HG.out).trans HC0.out;clear hb2)
      |(go_at_call 145;(with_reducible refine (HIA _).out.mono ?_);rintro e w3 ⟨rfl,rfl⟩)
      |(go_at_call 145;(with_reducible refine (HIB _).out.mono ?_);rintro e w3 ⟨rfl,rfl⟩)
      |(go_at_call 235;(with_reducible refine (HBY _).out.mono ?_);rintro e w3 ⟨rfl,rfl⟩))
     have HX3:=hid (((HX2.out.set (k:=1) (I J 0)).set (k:=2) (I J 0)).set (k:=5) (V none 0 0))
     have HB3:=hid (((HB2.out.setCell (p:=⟨w.heap.size,1,none⟩) (Ql _) (I J 0)).setCell (p:=⟨w.heap.size,2,none⟩) (Ql _) (I J 0)).setCell (p:=⟨w.heap.size,5,none⟩) (Ql _) (V none 0 0))
     clear y0 y1 y2 y3 y4 y5 y6 y7 y8 f1 f2 f5
     generalize (((w2.setCell ⟨w.heap.size,1,none⟩ (I J 0)).setCell ⟨w.heap.size,2,none⟩ (I J 0)).setCell ⟨w.heap.size,5,none⟩ (V none 0 0))=W3 at *
     go_wp2
     go_ret
     exact ⟨by simp,HB3.out⟩
    |true =>
     go_enter Tryz.func214,Tryz.ntmps214
     go_upto_region 50 with (first
      |(go_at_call 233;(with_reducible refine (HK _).out.mono ?_);rintro e w1 ⟨rfl,hb1⟩;have HB1:=Qd HBX hb1;have HX1:=Qe HX hb1;have z0:=HX1.out.at (k:=0) (v:=I J op) rfl;clear hb1)
      |(go_at_call 152;(with_reducible refine (HI _).out.mono ?_);rintro e w2 ⟨rfl,hb2⟩;have HB2:=Qd HB1 hb2;have HX2:=Qe HX1 hb2;obtain ⟨y0,y1,y2,y3,y4,y5,y6,y7,y8⟩:=ca9 HX2.out;have f1:=HX2.out.free 1;have f2:=HX2.out.free 2;have f5:=HX2.out.free 5;have x0:=(HB2.out.cell (p:=⟨g,o,none⟩) HG.out).trans HC0.out;clear hb2)
      |(go_at_call 145;(with_reducible refine (HIA _).out.mono ?_);rintro e w3 ⟨rfl,rfl⟩)
      |(go_at_call 145;(with_reducible refine (HIB _).out.mono ?_);rintro e w3 ⟨rfl,rfl⟩)
      |(go_at_call 235;(with_reducible refine (HBY _).out.mono ?_);rintro e w3 ⟨rfl,rfl⟩))
     have HX3:=hid (((HX2.out.set (k:=1) (I J 0)).set (k:=2) (I J 0)).set (k:=5) (V none 0 0))
     have HB3:=hid (((HB2.out.setCell (p:=⟨w.heap.size,1,none⟩) (Ql _) (I J 0)).setCell (p:=⟨w.heap.size,2,none⟩) (Ql _) (I J 0)).setCell (p:=⟨w.heap.size,5,none⟩) (Ql _) (V none 0 0))
     clear y0 y1 y2 y3 y4 y5 y6 y7 y8 f1 f2 f5
     generalize (((w2.setCell ⟨w.heap.size,1,none⟩ (I J 0)).setCell ⟨w.heap.size,2,none⟩ (I J 0)).setCell ⟨w.heap.size,5,none⟩ (V none 0 0))=W3 at *
     have x0':=HX3.out.at (k:=0) (v:=I J op) rfl
     have x1':=HX3.out.at (k:=1) (v:=I J 0) rfl
     have x2':=HX3.out.at (k:=2) (v:=I J 0) rfl
     have x3':=HX3.out.at (k:=3) (v:=I O n) rfl
     have x4':=HX3.out.at (k:=4) (v:=I O h) rfl
     have x5':=HX3.out.at (k:=5) (v:=V none 0 0) rfl
     have x6':=HX3.out.at (k:=6) (v:=V pb nb cb) rfl
     have x7':=HX3.out.at (k:=7) (v:=V pe ne ce) rfl
     have x8':=HX3.out.at (k:=8) (v:=G ot) rfl
     go_wp2_with (go_at_call 236;(with_reducible refine (HU _).out.mono ?_);rintro e w4 ⟨rfl,hb4⟩)
     go_ret
     exact ⟨by simp,HB3.out.trans (hb4.mono HB3.out.size)⟩
 have d1:((nl:Int)==1)=false:=by simp;omega
 rw[d1]
 clear hk hi hl hnl
 cases ia with
 |false =>
  go_enter Tryz.func214,Tryz.ntmps214
  go_upto_region 50 with (first
   |(go_at_call 233;(with_reducible refine (HK _).out.mono ?_);rintro e w1 ⟨rfl,hb1⟩;have HB1:=Qd HBX hb1;have HX1:=Qe HX hb1;have z0:=HX1.out.at (k:=0) (v:=I J op) rfl;clear hb1)
   |(go_at_call 152;(with_reducible refine (HI _).out.mono ?_);rintro e w2 ⟨rfl,hb2⟩;have HB2:=Qd HB1 hb2;have HX2:=Qe HX1 hb2;obtain ⟨y0,y1,y2,y3,y4,y5,y6,y7,y8⟩:=ca9 HX2.out;have f1:=HX2.out.free 1;have f2:=HX2.out.free 2;have f5:=HX2.out.free 5;clear hb2)
   |(go_at_call 145;(with_reducible refine (HIA _).out.mono ?_);rintro e w3 ⟨rfl,rfl⟩)
   |(go_at_call 145;(with_reducible refine (HIB _).out.mono ?_);rintro e w3 ⟨rfl,rfl⟩))
  have HX3:=hid (((HX2.out.set (k:=1) (I J 0)).set (k:=2) (I J 0)).set (k:=5) (V none 0 0))
  have HB3:=hid (((HB2.out.setCell (p:=⟨w.heap.size,1,none⟩) (Ql _) (I J 0)).setCell (p:=⟨w.heap.size,2,none⟩) (Ql _) (I J 0)).setCell (p:=⟨w.heap.size,5,none⟩) (Ql _) (V none 0 0))
  clear y0 y1 y2 y3 y4 y5 y6 y7 y8 f1 f2 f5
  generalize (((w2.setCell ⟨w.heap.size,1,none⟩ (I J 0)).setCell ⟨w.heap.size,2,none⟩ (I J 0)).setCell ⟨w.heap.size,5,none⟩ (V none 0 0))=W3 at *
  go_wp2
  go_ret
  exact ⟨by simp,HB3.out⟩
 |true =>
  cases ib with
  |false =>
   go_enter Tryz.func214,Tryz.ntmps214
   go_upto_region 50 with (first
    |(go_at_call 233;(with_reducible refine (HK _).out.mono ?_);rintro e w1 ⟨rfl,hb1⟩;have HB1:=Qd HBX hb1;have HX1:=Qe HX hb1;have z0:=HX1.out.at (k:=0) (v:=I J op) rfl;clear hb1)
    |(go_at_call 152;(with_reducible refine (HI _).out.mono ?_);rintro e w2 ⟨rfl,hb2⟩;have HB2:=Qd HB1 hb2;have HX2:=Qe HX1 hb2;obtain ⟨y0,y1,y2,y3,y4,y5,y6,y7,y8⟩:=ca9 HX2.out;have f1:=HX2.out.free 1;have f2:=HX2.out.free 2;have f5:=HX2.out.free 5;clear hb2)
    |(go_at_call 145;(with_reducible refine (HIA _).out.mono ?_);rintro e w3 ⟨rfl,rfl⟩)
    |(go_at_call 145;(with_reducible refine (HIB _).out.mono ?_);rintro e w3 ⟨rfl,rfl⟩))
   have HX3:=hid (((HX2.out.set (k:=1) (I J 0)).set (k:=2) (I J 0)).set (k:=5) (V none 0 0))
   have HB3:=hid (((HB2.out.setCell (p:=⟨w.heap.size,1,none⟩) (Ql _) (I J 0)).setCell (p:=⟨w.heap.size,2,none⟩) (Ql _) (I J 0)).setCell (p:=⟨w.heap.size,5,none⟩) (Ql _) (V none 0 0))
   clear y0 y1 y2 y3 y4 y5 y6 y7 y8 f1 f2 f5
   generalize (((w2.setCell ⟨w.heap.size,1,none⟩ (I J 0)).setCell ⟨w.heap.size,2,none⟩ (I J 0)).setCell ⟨w.heap.size,5,none⟩ (V none 0 0))=W3 at *
   go_wp2
   go_ret
   exact ⟨by simp,HB3.out⟩
  |true =>
   go_enter Tryz.func214,Tryz.ntmps214
   go_upto_region 50 with (first
    |(go_at_call 233;(with_reducible refine (HK _).out.mono ?_);rintro e w1 ⟨rfl,hb1⟩;have HB1:=Qd HBX hb1;have HX1:=Qe HX hb1;have z0:=HX1.out.at (k:=0) (v:=I J op) rfl;clear hb1)
    |(go_at_call 152;(with_reducible refine (HI _).out.mono ?_);rintro e w2 ⟨rfl,hb2⟩;have HB2:=Qd HB1 hb2;have HX2:=Qe HX1 hb2;obtain ⟨y0,y1,y2,y3,y4,y5,y6,y7,y8⟩:=ca9 HX2.out;have f1:=HX2.out.free 1;have f2:=HX2.out.free 2;have f5:=HX2.out.free 5;clear hb2)
    |(go_at_call 145;(with_reducible refine (HIA _).out.mono ?_);rintro e w3 ⟨rfl,rfl⟩)
    |(go_at_call 145;(with_reducible refine (HIB _).out.mono ?_);rintro e w3 ⟨rfl,rfl⟩))
   have HX3:=hid (((HX2.out.set (k:=1) (I J 0)).set (k:=2) (I J 0)).set (k:=5) (V none 0 0))
   have HB3:=hid (((HB2.out.setCell (p:=⟨w.heap.size,1,none⟩) (Ql _) (I J 0)).setCell (p:=⟨w.heap.size,2,none⟩) (Ql _) (I J 0)).setCell (p:=⟨w.heap.size,5,none⟩) (Ql _) (V none 0 0))
   clear y0 y1 y2 y3 y4 y5 y6 y7 y8 f1 f2 f5
   generalize (((w2.setCell ⟨w.heap.size,1,none⟩ (I J 0)).setCell ⟨w.heap.size,2,none⟩ (I J 0)).setCell ⟨w.heap.size,5,none⟩ (V none 0 0))=W3 at *
   go_wp2
   go_ret
   exact ⟨by simp,HB3.out⟩
def okB (k op a b:Int) (n h:Nat) (l:List Int) (ot:Bool) (nb ne:Nat):Bool :=
 if k=1 then blB op a b n h ot l.length nb ne
 else if k=2∨k=4∨k=7∨k=8∨k=9∨k=17∨k=18∨k=21 then idxB a&&unB 0 b n h ot l.length nb ne
 else if k=3 then (idxB a&&l.all idxB)&&unB 0 b n h ot 0 nb ne
 else if k=5∨k=20∨k=22∨k=10 then (idxB a&&idxB b)&&unB 0 0 n h ot l.length nb ne
 else if k=6 then l.all valB&&unB a b n h ot 0 nb ne
 else if k=26 then (idxB a&&idxB b&&((l.length:Int)==1)&&byteB (l.headD 0))&&unB 0 0 n h ot 0 nb ne
 else if k=12∨k=14 then decide ((n:Int)≤4294967295)&&unB a b 0 h ot l.length nb ne
 else if k=13∨k=15 then unB a b 0 h ot l.length nb ne
 else if k=23 then unB a b 0 0 ot l.length nb ne
 else if k=16 then refB a&&unB 0 b n h ot l.length nb ne
 else if k=24 then (((l.length:Int)==16)&&l.all byteB)&&unB a b n h ot 0 nb ne
 else if k=25 then byteB a&&unB 0 b n h ot l.length nb ne
 else unB a b n h ot l.length nb ne
noncomputable def insB (op a b:Int) (n h:Nat) (l:List Int) (ot:Bool) (nb ne:Nat):Bool:=knB (lineL op)&&okB (lineL op).2.1 op a b n h l ot nb ne
theorem ins_unknown (op:Int) (a b:Int) (n h:Nat) (nl:Nat) (pl pb pe:Option Addr) (cl nb cb ne ce:Nat) (ot:Bool) (w:World)
  (hk:∀W,Calls QP 233 #[I J op] W fun e w'=>e=Qr (G false)∧Below W.heap.size W w') :
  Calls QP 214 #[.agg #[I J op,I J a,I J b,I O n,I O h,V pl nl cl,V pb nb cb,V pe ne ce,G ot]] w fun e w'=>e=Qr (G false)∧Below w.heap.size w w':=by
 have HK:=fun W=>hid (hk W)
 have HBX:=hid ((QB w.heap.size w).alloc (Ql _) (Qc #[I J op,I J a,I J b,I O n,I O h,V pl nl cl,V pb nb cb,V pe ne ce,G ot] 39))
 clear hk
 go_enter Tryz.func214,Tryz.ntmps214
 go_wp2_with (go_at_call 233;(with_reducible refine (HK _).out.mono ?_);rintro e w1 ⟨rfl,hb1⟩;have HB1:=Qd HBX hb1;clear hb1)
 go_ret
 exact ⟨rfl,HB1.out⟩
theorem isInstr_says (op a b:Int) (n h:Nat) (l:List Int) (nl:Nat) (hnl:nl=l.length) (pl pb pe:Option Addr) (cl nb cb ne ce:Nat) (ot:Bool) (B:Nat) (w:World) (hB:B≤w.heap.size) (hl:LI B w (V pl nl cl) l) (hn:nl<9223372036854775807) :
  Calls QP 214 #[.agg #[I J op,I J a,I J b,I O n,I O h,V pl nl cl,V pb nb cb,V pe ne ce,G ot]] w fun e w'=>e=Qr (G (insB op a b n h l ot nb ne))∧Below w.heap.size w w':=by
 have hK:=Known_says op
 have hI:=Imm_says op
 obtain ⟨h0,h1,_⟩:=line_ok op
 unfold insB
 generalize knB (lineL op)=kn at *
 generalize (lineL op).2.1=k at *
 cases kn with
 |false=>exact ins_unknown op a b n h nl pl pb pe cl nb cb ne ce ot w hK
 |true =>
  rw[Bool.true_and]
  rcases (show k=0∨k=1∨k=2∨k=3∨k=4∨k=5∨k=6∨k=7∨k=8∨k=9∨k=10∨k=11∨k=12∨k=13∨k=14∨k=15∨k=16∨k=17∨k=18∨k=19∨k=20∨k=21∨k=22∨k=23∨k=24∨k=25∨k=26 by omega) with rfl|rfl|rfl|rfl|rfl|rfl|rfl|rfl|rfl|rfl|rfl|rfl|rfl|rfl|rfl|rfl|rfl|rfl|rfl|rfl|rfl|rfl|rfl|rfl|rfl|rfl|rfl
  ·have:=ins_0 0 (by simp) op a b n h l nl hnl pl pb pe cl nb cb ne ce ot B w hB hl hn hK hI
   rw[hnl]at this ⊢
   exact this
  ·have:=ins_1 op a b n h nl pl pb pe cl nb cb ne ce ot w hK hI
   rw[hnl]at this ⊢
   exact this
  ·have:=ins_2 2 (by simp) op a b n h l nl hnl pl pb pe cl nb cb ne ce ot B w hB hl hn hK hI
   rw[hnl]at this ⊢
   exact this
  ·have:=ins_3 op a b n h l nl hnl pl pb pe cl nb cb ne ce ot B w hB hl hn hK hI
   rw[hnl]at this ⊢
   exact this
  ·have:=ins_2 4 (by simp) op a b n h l nl hnl pl pb pe cl nb cb ne ce ot B w hB hl hn hK hI
   rw[hnl]at this ⊢
   exact this
  ·have:=ins_5 5 (by simp) op a b n h l nl hnl pl pb pe cl nb cb ne ce ot B w hB hl hn hK hI
   rw[hnl]at this ⊢
   exact this
  ·have:=ins_6 op a b n h l nl hnl pl pb pe cl nb cb ne ce ot B w hB hl hn hK hI
   rw[hnl]at this ⊢
   exact this
  ·have:=ins_2 7 (by simp) op a b n h l nl hnl pl pb pe cl nb cb ne ce ot B w hB hl hn hK hI
   rw[hnl]at this ⊢
   exact this
  ·have:=ins_8 op a b n h l nl hnl pl pb pe cl nb cb ne ce ot B w hB hl hn hK hI
   rw[hnl]at this ⊢
   exact this
  ·have:=ins_2 9 (by simp) op a b n h l nl hnl pl pb pe cl nb cb ne ce ot B w hB hl hn hK hI
   rw[hnl]at this ⊢
   exact this
  ·have:=ins_10 op a b n h l nl hnl pl pb pe cl nb cb ne ce ot B w hB hl hn hK hI
   rw[hnl]at this ⊢
   exact this
  ·have:=ins_0 11 (by simp) op a b n h l nl hnl pl pb pe cl nb cb ne ce ot B w hB hl hn hK hI
   rw[hnl]at this ⊢
   exact this
  ·have:=ins_12 12 (by simp) op a b n h l nl hnl pl pb pe cl nb cb ne ce ot B w hB hl hn hK hI
   rw[hnl]at this ⊢
   exact this
  ·have:=ins_13 13 (by simp) op a b n h l nl hnl pl pb pe cl nb cb ne ce ot B w hB hl hn hK hI
   rw[hnl]at this ⊢
   exact this
  ·have:=ins_12 14 (by simp) op a b n h l nl hnl pl pb pe cl nb cb ne ce ot B w hB hl hn hK hI
   rw[hnl]at this ⊢
   exact this
  ·have:=ins_13 15 (by simp) op a b n h l nl hnl pl pb pe cl nb cb ne ce ot B w hB hl hn hK hI
   rw[hnl]at this ⊢
   exact this
  ·have:=ins_16 op a b n h l nl hnl pl pb pe cl nb cb ne ce ot B w hB hl hn hK hI
   rw[hnl]at this ⊢
   exact this
  ·have:=ins_2 17 (by simp) op a b n h l nl hnl pl pb pe cl nb cb ne ce ot B w hB hl hn hK hI
   rw[hnl]at this ⊢
   exact this
  ·have:=ins_2 18 (by simp) op a b n h l nl hnl pl pb pe cl nb cb ne ce ot B w hB hl hn hK hI
   rw[hnl]at this ⊢
   exact this
  ·have:=ins_0 19 (by simp) op a b n h l nl hnl pl pb pe cl nb cb ne ce ot B w hB hl hn hK hI
   rw[hnl]at this ⊢
   exact this
  ·have:=ins_5 20 (by simp) op a b n h l nl hnl pl pb pe cl nb cb ne ce ot B w hB hl hn hK hI
   rw[hnl]at this ⊢
   exact this
  ·have:=ins_2 21 (by simp) op a b n h l nl hnl pl pb pe cl nb cb ne ce ot B w hB hl hn hK hI
   rw[hnl]at this ⊢
   exact this
  ·have:=ins_5 22 (by simp) op a b n h l nl hnl pl pb pe cl nb cb ne ce ot B w hB hl hn hK hI
   rw[hnl]at this ⊢
   exact this
  ·have:=ins_23 op a b n h l nl hnl pl pb pe cl nb cb ne ce ot B w hB hl hn hK hI
   rw[hnl]at this ⊢
   exact this
  ·have:=ins_24 op a b n h l nl hnl pl pb pe cl nb cb ne ce ot B w hB hl hn hK hI
   rw[hnl]at this ⊢
   exact this
  ·have:=ins_25 op a b n h l nl hnl pl pb pe cl nb cb ne ce ot B w hB hl hn hK hI
   rw[hnl]at this ⊢
   exact this
  have:=ins_26 op a b n h l nl hnl pl pb pe cl nb cb ne ce ot B w hB hl hK hI
  rw[hnl]at this ⊢
  exact this
theorem agree_any (op:Int):agree op=true:=by
 by_cases h:op∈rangeOps
 ·exact List.all_eq_true.1 agree_all op h
 have e1:=lineL_out op h
 have e2:ofL op=rw0:=by unfold ofL;rw[text_out op h];rfl
 unfold agree
 rw[e1,e2]
 simp only[rw0]
 rw[Bool.and_eq_true]
 refine ⟨by kernel_rfl,rfl⟩
theorem agree_two (op:Int) {o:Int} {nm:List UInt8} {im:Int} {tk lv:List UInt8} {fx:Bool} (h:ofL op=(o,nm,im,tk,lv,fx)):knB (lineL op)=decide (0≤o)∧(lineL op).2.1=im:=by
 have:=agree_any op
 unfold agree at this
 rw[h]at this
 simp only[Bool.and_eq_true,decide_eq_true_eq,beq_iff_eq,Bool.or_eq_true]at this
 obtain ⟨⟨⟨⟨⟨⟨⟨⟨h1,h2⟩,h3⟩,h4⟩,h5⟩,h6⟩,h7⟩,h8⟩,h9⟩:=this
 exact ⟨h1,h3⟩
def i64B (a:Int):Prop:=-9223372036854775808≤a∧a<9223372036854775808
theorem all_idx:∀(l:List Int),(∀x∈l,i64B x)→l.all idxB=l.all (inR 4294967296)
 | [],_=>rfl
 |x::l,h=>by
  rw[List.all_cons,List.all_cons,all_idx l fun y hy=>h y (List.mem_cons_of_mem _ hy),idx_eq x (h x (List.mem_cons_self ..)).1 (h x (List.mem_cons_self ..)).2]
  rfl
theorem all_byte (l:List Int):l.all byteB=l.all (inR 256):=by rw[show byteB=inR 256 from funext byte_eq]
theorem one_byte (l:List Int):(((l.length:Int)==1)&&byteB (l.headD 0))=(((l.length:Int)==1)&&l.all (inR 256)):=by
 match l with
 | []=>rfl
 | [x]=>simp[byte_eq]
 |x::y::l =>
  have:(((x::y::l).length:Int)==1)=false:=by simp;omega
  rw[this];rfl
theorem n32_eq (n:Nat):decide ((n:Int)≤4294967295)=decide ((n:Int)<4294967296):=decide_eq_decide.2 (by omega)
theorem ok_K (K op a b:Int) (n h:Nat) (l:List Int) (ot:Bool) (nb ne:Nat) (hK:K=0∨K=1∨K=2∨K=3∨K=4∨K=5∨K=6∨K=7∨K=8∨K=9∨K=10∨K=11∨K=12∨K=13∨K=14∨K=15∨K=16∨K=17∨K=18∨K=19∨K=20∨K=21∨K=22∨K=23∨K=24∨K=25∨K=26) (ha:i64B a) (hb:i64B b) (hl:∀x∈l,i64B x):oneR K op a b n h l l.length ot nb ne=okB K op a b n h l ot nb ne:=by
 rw[Bool.eq_iff_iff]
 have e1:=idx_eq a ha.1 ha.2
 have e2:=idx_eq b hb.1 hb.2
 have e3:=byte_eq a
 have e4:=all_idx l hl
 have e5:=all_byte l
 have e6:=one_byte l
 have e7:=n32_eq n
 rw[Bool.eq_iff_iff]at e6
 simp only[Bool.and_eq_true,List.all_eq_true,inR,Bool.and_eq_true,decide_eq_true_eq,beq_iff_eq,List.headD_eq_head?_getD]at e6
 rcases hK with rfl|rfl|rfl|rfl|rfl|rfl|rfl|rfl|rfl|rfl|rfl|rfl|rfl|rfl|rfl|rfl|rfl|rfl|rfl|rfl|rfl|rfl|rfl|rfl|rfl|rfl|rfl
 all_goals
  simp[oneR,okR,naR,nbR,nnR,nhR,okB,blB,unB,e1,e2,e3,e4,e5,e7,inR]
  try grind
theorem one_unknown (op:Int) (a b:Int) (n h:Nat) (nl:Nat) (pl pb pe:Option Addr) (cl nb cb ne ce:Nat) (ot:Bool) (w:World)
  (c0:Int) (v1 v3 v4:List UInt8) (v5:Bool) (k:Int) (hc0:decide (c0<0)=true) (hk:∀W,Calls QP 153 #[I J op] W fun e w'=>e=Qr (.agg #[I J c0,Qs (str v1),I J k,Qs (str v3),Qs (str v4),G v5])∧Below W.heap.size W w') :
  Calls QP 209 #[.agg #[I J op,I J a,I J b,I O n,I O h,V pl nl cl,V pb nb cb,V pe ne ce,G ot]] w fun e w'=>e=Qr (G false)∧Below w.heap.size w w':=by
 have HK:=fun W=>hid (hk W)
 have HBX:=hid ((QB w.heap.size w).alloc (Ql _) (Qc #[I J op,I J a,I J b,I O n,I O h,V pl nl cl,V pb nb cb,V pe ne ce,G ot] 39))
 clear hk
 go_enter Tryz.func209,Tryz.ntmps209
 go_upto_region 2 with (go_at_call 153;(with_reducible refine (HK _).out.mono ?_);rintro e w1 ⟨rfl,hb1⟩;have HB1:=Qd HBX hb1;clear hb1)
 have HR2:=hid (CA.new w1 #[I J c0,Qs (str v1),I J k,Qs (str v3),Qs (str v4),G v5] 172)
 have HB2:=hid (HB1.out.alloc HB1.out.size (Qc #[I J c0,Qs (str v1),I J k,Qs (str v3),Qs (str v4),G v5] 172))
 generalize w1.alloc (Qc #[I J c0,Qs (str v1),I J k,Qs (str v3),Qs (str v4),G v5] 172)=W2 at *
 have r0:=HR2.out.at (k:=0) (v:=I J c0) rfl
 go_wp2
 go_ret
 exact ⟨rfl,HB2.out⟩
theorem One_says (op a b:Int) (n h:Nat) (l:List Int) (nl:Nat) (hnl:nl=l.length) (pl pb pe:Option Addr) (cl nb cb ne ce:Nat) (ot:Bool) (B:Nat) (w:World) (hB:B≤w.heap.size) (hl:LI B w (V pl nl cl) l) (ha:i64B a) (hb:i64B b) (hli:∀x∈l,i64B x) :
  Calls QP 209 #[.agg #[I J op,I J a,I J b,I O n,I O h,V pl nl cl,V pb nb cb,V pe ne ce,G ot]] w fun e w'=>e=Qr (G (insB op a b n h l ot nb ne))∧Below w.heap.size w w':=by
 obtain ⟨o,nm,k,tk,lv,fx,hof⟩:∃o nm k tk lv fx,ofL op=(o,nm,k,tk,lv,fx):=⟨_,_,_,_,_,_,rfl⟩
 have hk:=fun W=>Of_says op W
 rw[hof]at hk
 obtain ⟨g1,g2⟩:=agree_two op hof
 obtain ⟨h0,h1,_⟩:=line_ok op
 rw[g2]at h0 h1
 unfold insB
 rw[g1,g2]
 by_cases hn:o<0
 ·rw[show decide (0≤o)=false by simp;omega,Bool.false_and]
  exact one_unknown op a b n h nl pl pb pe cl nb cb ne ce ot w o nm tk lv fx k (by simp;omega) hk
 have hc0:decide (o<0)=false:=by simp;omega
 rw[show decide (0≤o)=true by simp;omega,Bool.true_and]
 clear g1 g2 hof hn
 subst hnl
 have hK:k=0∨k=1∨k=2∨k=3∨k=4∨k=5∨k=6∨k=7∨k=8∨k=9∨k=10∨k=11∨k=12∨k=13∨k=14∨k=15∨k=16∨k=17∨k=18∨k=19∨k=20∨k=21∨k=22∨k=23∨k=24∨k=25∨k=26:=by omega
 have:=one_K k op a b n h l l.length rfl pl pb pe cl nb cb ne ce ot B w hB hl o nm tk lv fx hc0 hK hk
 rw[ok_K k op a b n h l ot nb ne hK ha hb hli]at this
 exact this
def wg:Fo→Int→Int→Int
 |.nil,_,left=>left
 |.cons _ _ _ _ _ l _ body els rest,d,left =>
  if 0≤left then
   wg rest d (if 1000<l.length then -1 else (if 0≤(if 600<d+1 then -1 else wg body (d+1) (left-1)) then (if 600<d+1 then -1 else wg els (d+1) (if 600<d+1 then -1 else wg body (d+1) (left-1))) else (if 600<d+1 then -1 else wg body (d+1) (left-1))))
  else left
def wgT (f:Fo) (d left:Int):Int:=if 600<d then -1 else wg f d left
theorem wg_cons (op a b:Int) (n h:Nat) (l:List Int) (ot:Bool) (body els rest:Fo) (d left:Int) (h0:0≤left) (A:Int) (hA:wgT body (d+1) (left-1)=A) (E:Int) (hE:wgT els (d+1) A=E) :
  wg (.cons op a b n h l ot body els rest) d left=wg rest d (if 1000<l.length then -1 else if 0≤A then E else A):=by
 unfold wgT at hA hE
 rw[wg,if_pos h0,hA,hE]
theorem wg_neg:∀(f:Fo) (d left:Int),left<0→wg f d left=left
 |.nil,_,_,_=>rfl
 |.cons _ _ _ _ _ _ _ _ _ _,d,left,h=>by rw[wg,if_neg (by omega)]
theorem wg_bound:∀(f:Fo) (d left:Int),-1≤left→-1≤wg f d left∧wg f d left≤left∧(0≤wg f d left→(f.cnt:Int)≤left-wg f d left)
 |.nil,_,left,h=>⟨h,Int.le_refl _,fun _=>by simp[wg,Fo.cnt]⟩
 |.cons op a b n hh l ot body els rest,d,left,h=>by
  by_cases h0:0≤left
  ·have b1:=wg_bound body (d+1) (left-1) (by omega)
   have hA:∃A,wgT body (d+1) (left-1)=A∧-1≤A∧A≤left-1∧(0≤A→(body.cnt:Int)≤left-1-A):=by
    unfold wgT
    split
    ·exact ⟨-1,rfl,by omega,by omega,by omega⟩
    exact ⟨_,rfl,b1⟩
   obtain ⟨A,hA,a1,a2,a3⟩:=hA
   have b2:=wg_bound els (d+1) A a1
   have hE:∃E,wgT els (d+1) A=E∧-1≤E∧E≤A∧(0≤E→(els.cnt:Int)≤A-E):=by
    unfold wgT
    split
    ·exact ⟨-1,rfl,by omega,by omega,by omega⟩
    exact ⟨_,rfl,b2⟩
   obtain ⟨E,hE,e1,e2,e3⟩:=hE
   rw[wg_cons op a b n hh l ot body els rest d left h0 A hA E hE]
   obtain ⟨C,hC⟩:∃C,C=(if 1000<l.length then -1 else if 0≤A then E else A):=⟨_,rfl⟩
   have hc:-1≤C∧C≤left-1∧(0≤C→(body.cnt:Int)+els.cnt≤left-1-C):=by
    rw[hC]
    split
    ·omega
    split
    ·refine ⟨by omega,by omega,fun hc=>?_⟩
     have:=a3 (by omega)
     have:=e3 hc
     omega
    omega
   rw[←hC]
   have b3:=wg_bound rest d C hc.1
   refine ⟨b3.1,by omega,fun hr=>?_⟩
   have:=b3.2.2 hr
   have:=hc.2.2 (by omega)
   simp only[Fo.cnt]
   omega
  rw[wg_neg _ _ _ (by omega)]
  exact ⟨h,Int.le_refl _,fun hr=>absurd hr h0⟩
theorem wgT_bound (f:Fo) (d left:Int) (h:-1≤left):-1≤wgT f d left∧(wgT f d left≤left∨wgT f d left=-1):=by
 unfold wgT
 split
 ·exact ⟨by omega,.inr rfl⟩
 have:=wg_bound f d left h
 exact ⟨this.1,.inl this.2.1⟩
theorem weigh_says (B:Nat) (w:World) (hB:B≤w.heap.size):∀(N:Nat) (f:Fo),f.cnt<N→Lens f→f.len<9223372036854775807→∀(d left:Int) (v:Value),0≤d→d≤601→-1≤left→left≤3000→SA B w v f →
  Calls QP 59 #[v,I J d,I J left] w fun e w'=>e=Qr (I J (wgT f d left))∧w=w':=by
 intro N
 induction N with
 |zero=>intro f h;omega
 |succ N ih =>
  intro f hf hL hlen d left v hd hd1 hl0 hl1 hs
  by_cases h600:600<d
  ·have dd:decide (600<d)=true:=by simpa using h600
   have hr:wgT f d left=-1:=by unfold wgT;rw[if_pos h600]
   rw[hr]
   clear hr h600 hs ih
   go_enter Tryz.func59,Tryz.ntmps59
   go_wp2
   go_ret
   exact ⟨rfl,rfl⟩
  have dd:decide (600<d)=false:=by simpa using h600
  have hr:wgT f d left=wg f d left:=by unfold wgT;rw[if_neg h600]
  rw[hr]
  obtain ⟨p,c,g0,o0,rfl,hp,hfa⟩:=hs
  obtain ⟨R,hR⟩:∃R,R=wg f d left:=⟨_,rfl⟩
  rw[←hR]
  obtain ⟨m,hm⟩:∃m,m=f.len:=⟨_,rfl⟩
  rw[←hm]at hp hlen ⊢
  have HIH:=hid ih
  have HP:=hid hp
  have HS:Hid (0+f.len=m∧f.cnt<N+1∧FA B w f g0 (o0+0*9)∧R=wg f d left∧Lens f):=⟨by rw[hm];omega,hf,by simpa using hfa,hR,hL⟩
  have hm62:(m:Int)<9223372036854775807:=by omega
  have hdw:wrap64 (d+1)=d+1:=by unfold wrap64;omega
  have HD:=hid hd
  have HD1:=hid (show d≤600 by omega)
  have HLL:=hid (And.intro hl0 hl1)
  clear ih hp hR hm hfa hf hL hr h600 hlen hd hd1 hl0 hl1
  go_enter Tryz.func59,Tryz.ntmps59
  go_wp2
  go_loop [2,7] (fun vl vi=>∃(i:Nat) (fi:Fo) (li:Int),i≤m∧vi=I J i∧vl=I J li∧Hid (-1≤li∧li≤3000)∧Hid (i+fi.len=m∧fi.cnt<N+1∧FA B w fi g0 (o0+i*9)∧R=wg fi d li∧Lens fi)) (fun _ vi=>m-(intOf vi).toNat)
  case atStart=>exact ⟨0,f,left,Qz _,rfl,rfl,HLL,HS⟩
  obtain ⟨i,fi,li,him,rfl,rfl,HLI,HI⟩:=hrel
  by_cases hli:0≤li
  ·have dl:decide (0≤li)=true:=by simpa using hli
   cases fi with
   |nil =>
    have hi:i=m:=HI.out.1
    subst hi
    have HE:Hid (R=li):=HI.out.2.2.2.1
    go_wp2
    go_ret
    exact ⟨by rw[HE.out];rfl,rfl⟩
   |cons op a b n h l ot body els rest =>
    obtain ⟨hg,⟨vl,vb,ve,x0,x1,x2,x3,x4,x5,x6,x7,x8,hl,hbo,hel⟩,hrest⟩:=HI.out.2.2.1
    obtain ⟨pl,cl,evl,_⟩:=id hl
    obtain ⟨nl,hnl⟩:∃x,x=l.length:=⟨_,rfl⟩
    rw[←hnl]at evl
    subst evl
    have hlt:i<m:=by have:=HI.out.1;simp only[Fo.len]at this;omega
    obtain rfl:=HP.out (by omega)
    obtain ⟨q1,q2,q3,q4,q5⟩:=HI.out.2.2.2.2
    have hcn:=HI.out.2.1
    simp only[Fo.cnt]at hcn
    obtain ⟨A,hA⟩:∃A,wgT body (d+1) (li-1)=A:=⟨_,rfl⟩
    obtain ⟨E,hE⟩:∃E,wgT els (d+1) A=E:=⟨_,rfl⟩
    have hev:=HI.out.2.2.2.1
    rw[wg_cons op a b n h l ot body els rest d li hli A hA E hE,←hnl]at hev
    have bA:=wgT_bound body (d+1) (li-1) (by omega)
    rw[hA]at bA
    have hA3:A≤3000:=by have:=HLI.out.2;omega
    have bE:=wgT_bound els (d+1) A bA.1
    rw[hE]at bE
    have hE3:E≤3000:=by omega
    have hsw:wrap64 (li-1)=li-1:=by unfold wrap64;have:=HLI.out.2;omega
    have KB:=hid (HIH.out body (by omega) q3 q1 (d+1) (li-1) vb (by have:=HD.out;omega) (by have:=HD1.out;omega) (by omega) (by have:=HLI.out.2;omega) hbo)
    have KE:=hid (HIH.out els (by omega) q4 q2 (d+1) A ve (by have:=HD.out;omega) (by have:=HD1.out;omega) bA.1 hA3 hel)
    rw[hA]at KB
    rw[hE]at KE
    have HEV:=hid hev
    have HLE:=hid (show i+1+rest.len=m∧rest.cnt<N+1 by have h1:=HI.out.1;simp only[Fo.len]at h1;omega)
    have HRS:=hid (show FA B w rest g0 (o0+(i+1)*9) by (have h9:o0+(i+1)*9=o0+i*9+9:=by omega);rw[h9];exact hrest)
    have HLR:=hid q5
    have HBA:=hid (And.intro bA.1 hA3)
    have HBE:=hid (And.intro bE.1 hE3)
    clear hl hbo hel hrest HI hg hcn hA hE hev bA bE hA3 hE3 q1 q2 q3 q4 q5 hnl x0 x1 x2 x3 x4 x8
    rcases (show (0≤A∨A<0)∧(1000<nl∨¬1000<nl) by omega) with ⟨ha|ha,hn|hn⟩
    ·have da:decide (0≤A)=true:=by simp;omega
     have dn:decide (1000<(nl:Int))=true:=by simp;omega
     have HF:Hid (R=wg rest d (-1)):=by
      have:=HEV.out
      rw[if_pos hn]at this
      exact this
     clear ha hn HEV
     go_wp2_with (first|(go_at_call 59;(with_reducible refine KB.out.mono ?_);rintro e w2 ⟨rfl,rfl⟩)|(go_at_call 59;(with_reducible refine KE.out.mono ?_);rintro e w3 ⟨rfl,rfl⟩))
     go_round
     case rel=>exact ⟨i+1,rest,(-1),hlt,by go_num,rfl,⟨by omega,by omega⟩,HLE.out.1,HLE.out.2,HRS.out,HF.out,HLR.out⟩
     case measure=>simp[intOf];omega
    ·have da:decide (0≤A)=true:=by simp;omega
     have dn:decide (1000<(nl:Int))=false:=by simp;omega
     have HF:Hid (R=wg rest d E):=by
      have:=HEV.out
      rw[if_neg hn,if_pos ha]at this
      exact this
     clear ha hn HEV
     go_wp2_with (first|(go_at_call 59;(with_reducible refine KB.out.mono ?_);rintro e w2 ⟨rfl,rfl⟩)|(go_at_call 59;(with_reducible refine KE.out.mono ?_);rintro e w3 ⟨rfl,rfl⟩))
     go_round
     case rel=>exact ⟨i+1,rest,E,hlt,by go_num,rfl,HBE,HLE.out.1,HLE.out.2,HRS.out,HF.out,HLR.out⟩
     case measure=>simp[intOf];omega
    ·have da:decide (0≤A)=false:=by simp;omega
     have dn:decide (1000<(nl:Int))=true:=by simp;omega
     have HF:Hid (R=wg rest d (-1)):=by
      have:=HEV.out
      rw[if_pos hn]at this
      exact this
     clear ha hn HEV
     go_wp2_with (go_at_call 59;(with_reducible refine KB.out.mono ?_);rintro e w2 ⟨rfl,rfl⟩)
     go_round
     case rel=>exact ⟨i+1,rest,(-1),hlt,by go_num,rfl,⟨by omega,by omega⟩,HLE.out.1,HLE.out.2,HRS.out,HF.out,HLR.out⟩
     case measure=>simp[intOf];omega
    have da:decide (0≤A)=false:=by simp;omega
    have dn:decide (1000<(nl:Int))=false:=by simp;omega
    have HF:Hid (R=wg rest d A):=by
     have:=HEV.out
     rw[if_neg hn,if_neg (by omega)]at this
     exact this
    clear ha hn HEV
    go_wp2_with (go_at_call 59;(with_reducible refine KB.out.mono ?_);rintro e w2 ⟨rfl,rfl⟩)
    go_round
    case rel=>exact ⟨i+1,rest,A,hlt,by go_num,rfl,HBA,HLE.out.1,HLE.out.2,HRS.out,HF.out,HLR.out⟩
    case measure=>simp[intOf];omega
  have dl:decide (0≤li)=false:=by simpa using hli
  have HE:Hid (R=li):=by rw[HI.out.2.2.2.1];exact wg_neg _ _ _ (by omega)
  have hlt:i<m∨i=m:=by omega
  clear hli HI
  rcases hlt with hlt|rfl
  ·go_wp2
   go_ret
   exact ⟨by rw[HE.out];rfl,rfl⟩
  go_wp2
  go_ret
  exact ⟨by rw[HE.out];rfl,rfl⟩
theorem Few_says (f:Fo) (v:Value) (w:World) (hL:Lens f) (hlen:f.len<9223372036854775807) (hs:SA w.heap.size w v f):Calls QP 17 #[v] w fun e w'=>e=Qr (G (decide (0≤wg f 0 3000)))∧w=w':=by
 have H:=hid (weigh_says w.heap.size w (Ql _) (f.cnt+1) f (Nat.lt_succ_self _) hL hlen 0 3000 v (by decide) (by decide) (by decide) (by decide) hs)
 rw[show wgT f 0 3000=wg f 0 3000 from if_neg (by decide)]at H
 generalize wg f 0 3000=r at *
 clear hL hs hlen
 go_enter Tryz.func17,Tryz.ntmps17
 go_wp2_with (go_at_call 59;(with_reducible refine H.out.mono ?_);rintro e w2 ⟨rfl,rfl⟩)
 go_ret
 exact ⟨rfl,rfl⟩
theorem few_cnt (f:Fo) (h:0≤wg f 0 3000):f.cnt≤3000:=by
 have:=(wg_bound f 0 3000 (by decide)).2.2 h
 omega
theorem KP.set (w:World) (g k:Nat) (v:Value):KP (some g) w (w.setCell ⟨g,k,none⟩ v):=⟨rfl,rfl,rfl,by simp[World.setCell],fun i hi hc=>Below.heap_setCell _ _ _ _ (fun e=>hc (by rw[e]))⟩
noncomputable def codeSt (_:Unit) (d op a b:Int) (n h:Nat) (l:List Int) (ot:Bool) (body els:Fo):Bool × Unit:=(decide (d≤500)&&insB op a b n h l ot body.len els.len,())
noncomputable def codeB (f:Fo):Bool:=(evF codeSt f 1 ()).1
noncomputable def dataSt (_:Unit) (d op a b:Int) (n h:Nat) (l:List Int) (ot:Bool) (body els:Fo):Bool × Unit:=((lineL op).2.1 !=17&&(lineL op).2.1 !=18,())
noncomputable def dataB (f:Fo):Bool:=(evF dataSt f 1 ()).1
theorem asks_code (B:Nat):Asked 213 #[] (fun (_:Unit) _=>True) codeSt B none:=by
 intro s d op a b n h l ot body els vl vb ve w hd hB hc hl hbo hel hs
 obtain ⟨pl,cl,rfl,hq,_⟩:=id hl
 obtain ⟨pb,cb,_,_,rfl,_,_⟩:=hbo
 obtain ⟨pe,ce,_,_,rfl,_,_⟩:=hel
 show Calls QP 213 #[.agg #[I J op,I J a,I J b,I O n,I O h,V pl l.length cl,V pb body.len cb,V pe els.len ce,G ot],I J d] w fun e w'=>e=Qr (G (decide (d≤500)&&insB op a b n h l ot body.len els.len))∧True∧KP none w w'
 have HI:∀W,Below w.heap.size w W→Hid (Calls QP 214 #[.agg #[I J op,I J a,I J b,I O n,I O h,V pl l.length cl,V pb body.len cb,V pe els.len ce,G ot]] W fun e w'=>e=Qr (G (insB op a b n h l ot body.len els.len))∧Below W.heap.size W w'):=fun W hW=>isInstr_says op a b n h l l.length rfl pl pb pe cl body.len cb els.len ce ot B W (Qk hB hW.size) (hl.below (hW.mono hB)) hq
 generalize insB op a b n h l ot body.len els.len=u at *
 generalize l.length=nl at *
 generalize body.len=nb at *
 generalize els.len=ne at *
 have HBX:=hid ((QB w.heap.size w).alloc (Ql _) (Qc #[I J op,I J a,I J b,I O n,I O h,V pl nl cl,V pb nb cb,V pe ne ce,G ot] 39))
 obtain ⟨b5,d5⟩:∃x,decide (d≤500)=x:=⟨_,rfl⟩
 rw[d5]
 clear hl hq hd hs hB hc
 cases b5 with
 |false =>
  go_enter Tryz.func213,Tryz.ntmps213
  go_wp2
  go_ret
  exact ⟨rfl,trivial,KP.of HBX.out⟩
 |true =>
  go_enter Tryz.func213,Tryz.ntmps213
  go_wp2_with (go_at_call 214;(with_reducible refine (HI _ HBX.out).out.mono ?_);rintro e w1 ⟨rfl,hb1⟩;have HB1:=Qd HBX hb1;clear hb1)
  go_ret
  exact ⟨by simp,trivial,KP.of HB1.out⟩
theorem isCode_says (f:Fo) (v:Value) (B:Nat) (w:World) (hn:f.cnt<9223372036854775806) (hB:B≤w.heap.size) (hs:SA B w v f):Calls QP 148 #[v] w fun e w'=>e=Qr (G (codeB f))∧Below w.heap.size w w':=by
 have H:=hid (every_says 213 #[] (fun _ _=>rfl) (fun (_:Unit) _=>True) codeSt B none (fun k e=>by cases e) (fun _ _ _ _ _=>trivial) (asks_code B) f () v w hn hB (fun k e=>by cases e) hs trivial)
 unfold codeB
 generalize (evF codeSt f 1 ()).1=r at *
 clear hs hn
 go_enter Tryz.func148,Tryz.ntmps148
 go_wp2_with (go_at_call 140;(with_reducible refine H.out.mono ?_);rintro e w1 ⟨rfl,_,hk1⟩)
 go_ret
 exact ⟨rfl,hk1.pure⟩
theorem asks_data (B:Nat):Asked 151 #[] (fun (_:Unit) _=>True) dataSt B none:=by
 intro s d op a b n h l ot body els vl vb ve w hd hB hc hl hbo hel hs
 obtain ⟨pl,cl,rfl,hq,_⟩:=id hl
 obtain ⟨pb,cb,_,_,rfl,_,_⟩:=hbo
 obtain ⟨pe,ce,_,_,rfl,_,_⟩:=hel
 have HI:=fun W=>hid (Imm_says op W)
 unfold dataSt
 generalize (lineL op).2.1=k at *
 show Calls QP 151 #[.agg #[I J op,I J a,I J b,I O n,I O h,V pl l.length cl,V pb body.len cb,V pe els.len ce,G ot],I J d] w fun e w'=>e=Qr (G (k !=17&&k !=18))∧True∧KP none w w'
 generalize l.length=nl at *
 generalize body.len=nb at *
 generalize els.len=ne at *
 have HBX:=hid ((QB w.heap.size w).alloc (Ql _) (Qc #[I J op,I J a,I J b,I O n,I O h,V pl nl cl,V pb nb cb,V pe ne ce,G ot] 39))
 obtain ⟨b5,d5⟩:∃x,(k !=17)=x:=⟨_,rfl⟩
 rw[d5]
 clear hl hq hd hs hB hc
 cases b5
 all_goals
  go_enter Tryz.func151,Tryz.ntmps151
  go_wp2_with (go_at_call 152;(with_reducible refine (HI _).out.mono ?_);rintro e w1 ⟨rfl,hb1⟩;have HB1:=Qd HBX hb1;clear hb1)
  go_ret
  exact ⟨by simp,trivial,KP.of HB1.out⟩
theorem nst_cnt:∀f:Fo,f.nst≤f.cnt∧f.len≤f.cnt
 |.nil=>⟨Ql _,Ql _⟩
 |.cons _ _ _ _ _ _ _ b e r=>by
  have h1:=nst_cnt b
  have h2:=nst_cnt e
  have h3:=nst_cnt r
  simp only[Fo.nst,Fo.cnt,Fo.len]
  omega
theorem RNest_says (B:Nat) (w:World) (hc62:True):∀(N:Nat) (f:Fo),f.cnt<N∧f.cnt<9223372036854775806→∀(v:Value),SA B w v f →
  Calls QP 138 #[v] w fun e w'=>e=Qr (I J (f.nst:Nat))∧w=w':=by
 intro N
 induction N with
 |zero=>intro f h;omega
 |succ N ih =>
  intro f hf v hs
  obtain ⟨p,c,g0,o0,rfl,hp,hfa⟩:=hs
  have hcl:=nst_cnt f
  obtain ⟨m,hm⟩:∃m,m=f.len:=⟨_,rfl⟩
  rw[←hm]at hp ⊢
  have HIH:=hid ih
  have HP:=hid hp
  have hm62:(m:Int)<9223372036854775807:=by omega
  obtain ⟨R,hR⟩:∃R,R=f.nst:=⟨_,rfl⟩
  rw[←hR]
  have HS:Hid (0+f.len=m∧f.cnt<N+1∧FA B w f g0 (o0+0*9)∧R=max 0 f.nst∧f.cnt<9223372036854775806):=⟨by rw[hm];omega,hf.1,by simpa using hfa,by omega,hf.2⟩
  clear ih hp hR hm hfa hf hcl
  go_enter Tryz.func138,Tryz.ntmps138
  go_wp2
  go_loop [3,4] (fun vn vi=>∃(i:Nat) (fi:Fo) (n:Nat),i≤m∧vi=I J i∧vn=I J n∧Hid (i+fi.len=m∧fi.cnt<N+1∧FA B w fi g0 (o0+i*9)∧R=max n fi.nst∧fi.cnt<9223372036854775806)) (fun _ vi=>m-(intOf vi).toNat)
  case atStart=>exact ⟨0,f,0,Qz _,rfl,rfl,HS⟩
  obtain ⟨i,fi,n,him,rfl,rfl,HI⟩:=hrel
  cases fi with
  |nil =>
   have hi:i=m:=HI.out.1
   subst hi
   have HE:Hid (R=n):=by have:=HI.out.2.2.2.1;simp only[Fo.nst]at this;(show R=n);omega
   go_wp2
   go_ret
   exact ⟨by rw[HE.out];rfl,rfl⟩
  |cons op a b nn h l ot body els rest =>
   obtain ⟨hg,⟨vl,vb,ve,x0,x1,x2,x3,x4,x5,x6,x7,x8,hl,hbo,hel⟩,hrest⟩:=HI.out.2.2.1
   have hlt:i<m:=by have:=HI.out.1;simp only[Fo.len]at this;omega
   obtain rfl:=HP.out (by omega)
   have hcn:=HI.out.2.1
   simp only[Fo.cnt]at hcn
   have nb:=nst_cnt body
   have ne:=nst_cnt els
   have nr:=nst_cnt rest
   have h62:=HI.out.2.2.2.2
   simp only[Fo.cnt]at h62
   have KB:=hid (HIH.out body ⟨by omega,by omega⟩ vb hbo)
   have KE:=hid (HIH.out els ⟨by omega,by omega⟩ ve hel)
   have hR:=HI.out.2.2.2.1
   simp only[Fo.nst]at hR
   have HR:=hid hR
   have HLE:=hid (show i+1+rest.len=m∧rest.cnt<N+1∧rest.cnt<9223372036854775806 by have h1:=HI.out.1;simp only[Fo.len]at h1;omega)
   have HRS:=hid (show FA B w rest g0 (o0+(i+1)*9) by (have h9:o0+(i+1)*9=o0+i*9+9:=by omega);rw[h9];exact hrest)
   obtain ⟨x,hx⟩:∃x,x=body.nst:=⟨_,rfl⟩
   obtain ⟨y,hy⟩:∃y,y=els.nst:=⟨_,rfl⟩
   rw[←hx,←hy]at HR
   rw[←hx]at KB nb
   rw[←hy]at KE ne
   have hwx:wrap64 ((x:Int)+1)=(x:Int)+1:=by unfold wrap64;omega
   have hwy:wrap64 ((y:Int)+1)=(y:Int)+1:=by unfold wrap64;omega
   clear hbo hel hrest HI hg hcn hl hR hx hy x0 x1 x2 x3 x4 x5 x8 nb ne nr h62
   rcases (show (x<y∨¬x<y) by omega) with hxy|hxy
   ·have d1:decide ((x:Int)<(y:Int))=true:=by simp;omega
    rcases (show (n<y+1∨¬n<y+1) by omega) with hn|hn
    ·have d2:decide ((n:Int)<(y:Int)+1)=true:=by simp;omega
     go_wp2_with (first
      |(go_at_call 138;(with_reducible refine KB.out.mono ?_);rintro e w2 ⟨rfl,rfl⟩)
      |(go_at_call 138;(with_reducible refine KE.out.mono ?_);rintro e w3 ⟨rfl,rfl⟩))
     go_round
     case rel=>exact ⟨i+1,rest,y+1,hlt,by go_num,by go_num,HLE.out.1,HLE.out.2.1,HRS.out,by have:=HR.out;omega,HLE.out.2.2⟩
     case measure=>simp[intOf];omega
    have d2:decide ((n:Int)<(y:Int)+1)=false:=by simp;omega
    go_wp2_with (first
     |(go_at_call 138;(with_reducible refine KB.out.mono ?_);rintro e w2 ⟨rfl,rfl⟩)
     |(go_at_call 138;(with_reducible refine KE.out.mono ?_);rintro e w3 ⟨rfl,rfl⟩))
    go_round
    case rel=>exact ⟨i+1,rest,n,hlt,by go_num,rfl,HLE.out.1,HLE.out.2.1,HRS.out,by have:=HR.out;omega,HLE.out.2.2⟩
    case measure=>simp[intOf];omega
   have d1:decide ((x:Int)<(y:Int))=false:=by simp;omega
   rcases (show (n<x+1∨¬n<x+1) by omega) with hn|hn
   ·have d2:decide ((n:Int)<(x:Int)+1)=true:=by simp;omega
    go_wp2_with (first
     |(go_at_call 138;(with_reducible refine KB.out.mono ?_);rintro e w2 ⟨rfl,rfl⟩)
     |(go_at_call 138;(with_reducible refine KE.out.mono ?_);rintro e w3 ⟨rfl,rfl⟩))
    go_round
    case rel=>exact ⟨i+1,rest,x+1,hlt,by go_num,by go_num,HLE.out.1,HLE.out.2.1,HRS.out,by have:=HR.out;omega,HLE.out.2.2⟩
    case measure=>simp[intOf];omega
   have d2:decide ((n:Int)<(x:Int)+1)=false:=by simp;omega
   go_wp2_with (first
    |(go_at_call 138;(with_reducible refine KB.out.mono ?_);rintro e w2 ⟨rfl,rfl⟩)
    |(go_at_call 138;(with_reducible refine KE.out.mono ?_);rintro e w3 ⟨rfl,rfl⟩))
   go_round
   case rel=>exact ⟨i+1,rest,n,hlt,by go_num,rfl,HLE.out.1,HLE.out.2.1,HRS.out,by have:=HR.out;omega,HLE.out.2.2⟩
   case measure=>simp[intOf];omega
noncomputable def onesB:Fo→Bool
 |.nil=>true
 |.cons op a b n h l ot body els rest=>insB op a b n h l ot body.len els.len&&onesB body&&onesB els&&onesB rest
def Rng:Fo→Prop
 |.nil=>True
 |.cons _ a b _ _ l _ body els rest=>i64B a∧i64B b∧(∀x∈l,i64B x)∧Rng body∧Rng els∧Rng rest
theorem ones_says (B:Nat):∀(N:Nat) (f:Fo),f.cnt<N∧f.cnt<9223372036854775806→Rng f→∀(v:Value) (w:World),B≤w.heap.size→SA B w v f →
  Calls QP 137 #[v] w fun e w'=>e=Qr (G (onesB f))∧Below w.heap.size w w':=by
 intro N
 induction N with
 |zero=>intro f h;omega
 |succ N ih =>
  intro f hf hr v w hB hs
  obtain ⟨p,c,g0,o0,rfl,hp,hfa⟩:=hs
  have hcl:=nst_cnt f
  obtain ⟨m,hm⟩:∃m,m=f.len:=⟨_,rfl⟩
  rw[←hm]at hp ⊢
  have HIH:=hid ih
  have HP:=hid hp
  have HBB:=hid hB
  have hm62:(m:Int)<9223372036854775807:=by omega
  obtain ⟨R,hR⟩:∃R,R=onesB f:=⟨_,rfl⟩
  rw[←hR]
  have HS:Hid (0+f.len=m∧f.cnt<N+1∧FA B w f g0 (o0+0*9)∧R=onesB f∧(f.cnt<9223372036854775806∧Rng f)∧Below w.heap.size w w):=⟨by rw[hm];omega,hf.1,by simpa using hfa,hR,⟨hf.2,hr⟩,QB _ _⟩
  clear ih hp hR hm hfa hf hcl hB hr
  go_enter Tryz.func137,Tryz.ntmps137
  go_wp2
  go_loopw [3] (fun vi wr=>∃(i:Nat) (fi:Fo),i≤m∧vi=I J i∧Hid (i+fi.len=m∧fi.cnt<N+1∧FA B w fi g0 (o0+i*9)∧R=onesB fi∧(fi.cnt<9223372036854775806∧Rng fi)∧Below w.heap.size w wr)) (fun vi _=>m-(intOf vi).toNat)
  case atStart=>exact ⟨0,f,Qz _,rfl,HS⟩
  obtain ⟨i,fi,him,rfl,HI⟩:=hrel
  cases fi with
  |nil =>
   have hi:i=m:=HI.out.1
   subst hi
   have HE:Hid (R=true):=HI.out.2.2.2.1
   have HW:=hid HI.out.2.2.2.2.2
   go_wp2
   go_ret
   exact ⟨by rw[HE.out];rfl,HW.out⟩
  |cons op a b nn h l ot body els rest =>
   obtain ⟨hg,⟨vl,vb,ve,x0,x1,x2,x3,x4,x5,x6,x7,x8,hl,hbo,hel⟩,hrest⟩:=HI.out.2.2.1
   have hlt:i<m:=by have:=HI.out.1;simp only[Fo.len]at this;omega
   obtain rfl:=HP.out (by omega)
   have hcn:=HI.out.2.1
   simp only[Fo.cnt]at hcn
   have h62:=HI.out.2.2.2.2.1.1
   simp only[Fo.cnt]at h62
   obtain ⟨ra,rb,rl,rbo,rel',rre⟩:=HI.out.2.2.2.2.1.2
   have HL:=hid hl
   have HBO:=hid hbo
   have HEL:=hid hel
   have KB:=fun (W:World) (hW:Below w.heap.size w W)=>hid (HIH.out body ⟨by omega,by omega⟩ rbo vb W (Qk HBB.out hW.size) (SA.below HBO.out (hW.mono HBB.out)))
   have KE:=fun (W:World) (hW:Below w.heap.size w W)=>hid (HIH.out els ⟨by omega,by omega⟩ rel' ve W (Qk HBB.out hW.size) (SA.below HEL.out (hW.mono HBB.out)))
   obtain ⟨pl,cl,evl,_⟩:=id hl
   obtain ⟨pb,cb,_,_,evb,_,_⟩:=id hbo
   obtain ⟨pe,ce,_,_,eve,_,_⟩:=id hel
   obtain ⟨nl,hnl⟩:∃x,x=l.length:=⟨_,rfl⟩
   obtain ⟨nb,hnb⟩:∃x,x=body.len:=⟨_,rfl⟩
   obtain ⟨ne,hne⟩:∃x,x=els.len:=⟨_,rfl⟩
   rw[←hnl]at evl
   rw[←hnb]at evb
   rw[←hne]at eve
   subst evl evb eve
   have K1:=fun (W:World) (hW:Below w.heap.size w W)=>hid (One_says op a b nn h l nl hnl pl pb pe cl nb cb ne ce ot B W (Qk HBB.out hW.size) (HL.out.below (hW.mono HBB.out)) ra rb rl)
   have hR:=HI.out.2.2.2.1
   simp only[onesB]at hR
   rw[←hnb,←hne]at hR
   have HR:=hid hR
   have HLE:=hid (show i+1+rest.len=m∧rest.cnt<N+1∧rest.cnt<9223372036854775806 by have h1:=HI.out.1;simp only[Fo.len]at h1;omega)
   have HRR:=hid rre
   have HRS:=hid (show FA B w rest g0 (o0+(i+1)*9) by (have h9:o0+(i+1)*9=o0+i*9+9:=by omega);rw[h9];exact hrest)
   have HGW:=hid (Nat.lt_of_lt_of_le hg HBB.out)
   have hS0:=HI.out.2.2.2.2.2
   generalize insB op a b nn h l ot nb ne=q1 at *
   generalize onesB body=q2 at *
   generalize onesB els=q3 at *
   clear hR hl hbo hel hrest HI hg hcn h62 ra rb rl rbo rel' rre hnl hnb hne
   have HX:=hid (And.intro x0 (And.intro x1 (And.intro x2 (And.intro x3 (And.intro x4 (And.intro x5 (And.intro x6 (And.intro x7 x8))))))))
   clear x0 x1 x2 x3 x4 x5 x6 x7 x8
   obtain ⟨x0,x1,x2,x3,x4,x5,x6,x7,x8⟩:=HX.out;have z0:=(hS0.cell (p:=⟨g0,o0+i*9,none⟩) HGW.out).trans x0;have z1:=(hS0.cell (p:=⟨g0,o0+i*9+1,none⟩) HGW.out).trans x1;have z2:=(hS0.cell (p:=⟨g0,o0+i*9+2,none⟩) HGW.out).trans x2;have z3:=(hS0.cell (p:=⟨g0,o0+i*9+3,none⟩) HGW.out).trans x3;have z4:=(hS0.cell (p:=⟨g0,o0+i*9+4,none⟩) HGW.out).trans x4;have z5:=(hS0.cell (p:=⟨g0,o0+i*9+5,none⟩) HGW.out).trans x5;have z6:=(hS0.cell (p:=⟨g0,o0+i*9+6,none⟩) HGW.out).trans x6;have z7:=(hS0.cell (p:=⟨g0,o0+i*9+7,none⟩) HGW.out).trans x7;have z8:=(hS0.cell (p:=⟨g0,o0+i*9+8,none⟩) HGW.out).trans x8;clear x0 x1 x2 x3 x4 x5 x6 x7 x8
   rcases (show q1=false∨(q1=true∧q2=false)∨(q1=true∧q2=true∧q3=false)∨(q1=true∧q2=true∧q3=true) by cases q1<;>cases q2<;>cases q3<;>simp) with rfl|⟨rfl,rfl⟩|⟨rfl,rfl,rfl⟩|⟨rfl,rfl,rfl⟩
   ·go_wp2_with (first
     |(go_at_call 209;(with_reducible refine (K1 _ hS0).out.mono ?_);rintro e W1 ⟨rfl,hb⟩;have hS1:=hS0.trans (hb.mono hS0.size);clear hb;clear z0 z1 z2 z3 z4 z5 z6 z7 z8;obtain ⟨x0,x1,x2,x3,x4,x5,x6,x7,x8⟩:=HX.out;have u0:=(hS1.cell (p:=⟨g0,o0+i*9,none⟩) HGW.out).trans x0;have u1:=(hS1.cell (p:=⟨g0,o0+i*9+1,none⟩) HGW.out).trans x1;have u2:=(hS1.cell (p:=⟨g0,o0+i*9+2,none⟩) HGW.out).trans x2;have u3:=(hS1.cell (p:=⟨g0,o0+i*9+3,none⟩) HGW.out).trans x3;have u4:=(hS1.cell (p:=⟨g0,o0+i*9+4,none⟩) HGW.out).trans x4;have u5:=(hS1.cell (p:=⟨g0,o0+i*9+5,none⟩) HGW.out).trans x5;have u6:=(hS1.cell (p:=⟨g0,o0+i*9+6,none⟩) HGW.out).trans x6;have u7:=(hS1.cell (p:=⟨g0,o0+i*9+7,none⟩) HGW.out).trans x7;have u8:=(hS1.cell (p:=⟨g0,o0+i*9+8,none⟩) HGW.out).trans x8;clear x0 x1 x2 x3 x4 x5 x6 x7 x8)
     |(go_at_call 137;(with_reducible refine (KB _ hS1).out.mono ?_);rintro e W2 ⟨rfl,hb⟩;have hS2:=hS1.trans (hb.mono hS1.size);clear hb;clear u0 u1 u2 u3 u4 u5 u6 u7 u8;obtain ⟨x0,x1,x2,x3,x4,x5,x6,x7,x8⟩:=HX.out;have s0:=(hS2.cell (p:=⟨g0,o0+i*9,none⟩) HGW.out).trans x0;have s1:=(hS2.cell (p:=⟨g0,o0+i*9+1,none⟩) HGW.out).trans x1;have s2:=(hS2.cell (p:=⟨g0,o0+i*9+2,none⟩) HGW.out).trans x2;have s3:=(hS2.cell (p:=⟨g0,o0+i*9+3,none⟩) HGW.out).trans x3;have s4:=(hS2.cell (p:=⟨g0,o0+i*9+4,none⟩) HGW.out).trans x4;have s5:=(hS2.cell (p:=⟨g0,o0+i*9+5,none⟩) HGW.out).trans x5;have s6:=(hS2.cell (p:=⟨g0,o0+i*9+6,none⟩) HGW.out).trans x6;have s7:=(hS2.cell (p:=⟨g0,o0+i*9+7,none⟩) HGW.out).trans x7;have s8:=(hS2.cell (p:=⟨g0,o0+i*9+8,none⟩) HGW.out).trans x8;clear x0 x1 x2 x3 x4 x5 x6 x7 x8)
     |(go_at_call 137;(with_reducible refine (KE _ hS2).out.mono ?_);rintro e W3 ⟨rfl,hb⟩;have hS3:=hS2.trans (hb.mono hS2.size);clear hb;clear s0 s1 s2 s3 s4 s5 s6 s7 s8))
    go_ret
    exact ⟨by rw[HR.out];simp,hS3⟩
   ·go_wp2_with (first
     |(go_at_call 209;(with_reducible refine (K1 _ hS0).out.mono ?_);rintro e W1 ⟨rfl,hb⟩;have hS1:=hS0.trans (hb.mono hS0.size);clear hb;clear z0 z1 z2 z3 z4 z5 z6 z7 z8;obtain ⟨x0,x1,x2,x3,x4,x5,x6,x7,x8⟩:=HX.out;have u0:=(hS1.cell (p:=⟨g0,o0+i*9,none⟩) HGW.out).trans x0;have u1:=(hS1.cell (p:=⟨g0,o0+i*9+1,none⟩) HGW.out).trans x1;have u2:=(hS1.cell (p:=⟨g0,o0+i*9+2,none⟩) HGW.out).trans x2;have u3:=(hS1.cell (p:=⟨g0,o0+i*9+3,none⟩) HGW.out).trans x3;have u4:=(hS1.cell (p:=⟨g0,o0+i*9+4,none⟩) HGW.out).trans x4;have u5:=(hS1.cell (p:=⟨g0,o0+i*9+5,none⟩) HGW.out).trans x5;have u6:=(hS1.cell (p:=⟨g0,o0+i*9+6,none⟩) HGW.out).trans x6;have u7:=(hS1.cell (p:=⟨g0,o0+i*9+7,none⟩) HGW.out).trans x7;have u8:=(hS1.cell (p:=⟨g0,o0+i*9+8,none⟩) HGW.out).trans x8;clear x0 x1 x2 x3 x4 x5 x6 x7 x8)
     |(go_at_call 137;(with_reducible refine (KB _ hS1).out.mono ?_);rintro e W2 ⟨rfl,hb⟩;have hS2:=hS1.trans (hb.mono hS1.size);clear hb;clear u0 u1 u2 u3 u4 u5 u6 u7 u8;obtain ⟨x0,x1,x2,x3,x4,x5,x6,x7,x8⟩:=HX.out;have s0:=(hS2.cell (p:=⟨g0,o0+i*9,none⟩) HGW.out).trans x0;have s1:=(hS2.cell (p:=⟨g0,o0+i*9+1,none⟩) HGW.out).trans x1;have s2:=(hS2.cell (p:=⟨g0,o0+i*9+2,none⟩) HGW.out).trans x2;have s3:=(hS2.cell (p:=⟨g0,o0+i*9+3,none⟩) HGW.out).trans x3;have s4:=(hS2.cell (p:=⟨g0,o0+i*9+4,none⟩) HGW.out).trans x4;have s5:=(hS2.cell (p:=⟨g0,o0+i*9+5,none⟩) HGW.out).trans x5;have s6:=(hS2.cell (p:=⟨g0,o0+i*9+6,none⟩) HGW.out).trans x6;have s7:=(hS2.cell (p:=⟨g0,o0+i*9+7,none⟩) HGW.out).trans x7;have s8:=(hS2.cell (p:=⟨g0,o0+i*9+8,none⟩) HGW.out).trans x8;clear x0 x1 x2 x3 x4 x5 x6 x7 x8)
     |(go_at_call 137;(with_reducible refine (KE _ hS2).out.mono ?_);rintro e W3 ⟨rfl,hb⟩;have hS3:=hS2.trans (hb.mono hS2.size);clear hb;clear s0 s1 s2 s3 s4 s5 s6 s7 s8))
    go_ret
    exact ⟨by rw[HR.out];simp,hS3⟩
   ·go_wp2_with (first
     |(go_at_call 209;(with_reducible refine (K1 _ hS0).out.mono ?_);rintro e W1 ⟨rfl,hb⟩;have hS1:=hS0.trans (hb.mono hS0.size);clear hb;clear z0 z1 z2 z3 z4 z5 z6 z7 z8;obtain ⟨x0,x1,x2,x3,x4,x5,x6,x7,x8⟩:=HX.out;have u0:=(hS1.cell (p:=⟨g0,o0+i*9,none⟩) HGW.out).trans x0;have u1:=(hS1.cell (p:=⟨g0,o0+i*9+1,none⟩) HGW.out).trans x1;have u2:=(hS1.cell (p:=⟨g0,o0+i*9+2,none⟩) HGW.out).trans x2;have u3:=(hS1.cell (p:=⟨g0,o0+i*9+3,none⟩) HGW.out).trans x3;have u4:=(hS1.cell (p:=⟨g0,o0+i*9+4,none⟩) HGW.out).trans x4;have u5:=(hS1.cell (p:=⟨g0,o0+i*9+5,none⟩) HGW.out).trans x5;have u6:=(hS1.cell (p:=⟨g0,o0+i*9+6,none⟩) HGW.out).trans x6;have u7:=(hS1.cell (p:=⟨g0,o0+i*9+7,none⟩) HGW.out).trans x7;have u8:=(hS1.cell (p:=⟨g0,o0+i*9+8,none⟩) HGW.out).trans x8;clear x0 x1 x2 x3 x4 x5 x6 x7 x8)
     |(go_at_call 137;(with_reducible refine (KB _ hS1).out.mono ?_);rintro e W2 ⟨rfl,hb⟩;have hS2:=hS1.trans (hb.mono hS1.size);clear hb;clear u0 u1 u2 u3 u4 u5 u6 u7 u8;obtain ⟨x0,x1,x2,x3,x4,x5,x6,x7,x8⟩:=HX.out;have s0:=(hS2.cell (p:=⟨g0,o0+i*9,none⟩) HGW.out).trans x0;have s1:=(hS2.cell (p:=⟨g0,o0+i*9+1,none⟩) HGW.out).trans x1;have s2:=(hS2.cell (p:=⟨g0,o0+i*9+2,none⟩) HGW.out).trans x2;have s3:=(hS2.cell (p:=⟨g0,o0+i*9+3,none⟩) HGW.out).trans x3;have s4:=(hS2.cell (p:=⟨g0,o0+i*9+4,none⟩) HGW.out).trans x4;have s5:=(hS2.cell (p:=⟨g0,o0+i*9+5,none⟩) HGW.out).trans x5;have s6:=(hS2.cell (p:=⟨g0,o0+i*9+6,none⟩) HGW.out).trans x6;have s7:=(hS2.cell (p:=⟨g0,o0+i*9+7,none⟩) HGW.out).trans x7;have s8:=(hS2.cell (p:=⟨g0,o0+i*9+8,none⟩) HGW.out).trans x8;clear x0 x1 x2 x3 x4 x5 x6 x7 x8)
     |(go_at_call 137;(with_reducible refine (KE _ hS2).out.mono ?_);rintro e W3 ⟨rfl,hb⟩;have hS3:=hS2.trans (hb.mono hS2.size);clear hb;clear s0 s1 s2 s3 s4 s5 s6 s7 s8))
    go_ret
    exact ⟨by rw[HR.out];simp,hS3⟩
   have HF:Hid (R=onesB rest):=by have:=HR.out;(show R=onesB rest);simpa using this
   go_wp2_with (first
    |(go_at_call 209;(with_reducible refine (K1 _ hS0).out.mono ?_);rintro e W1 ⟨rfl,hb⟩;have hS1:=hS0.trans (hb.mono hS0.size);clear hb;clear z0 z1 z2 z3 z4 z5 z6 z7 z8;obtain ⟨x0,x1,x2,x3,x4,x5,x6,x7,x8⟩:=HX.out;have u0:=(hS1.cell (p:=⟨g0,o0+i*9,none⟩) HGW.out).trans x0;have u1:=(hS1.cell (p:=⟨g0,o0+i*9+1,none⟩) HGW.out).trans x1;have u2:=(hS1.cell (p:=⟨g0,o0+i*9+2,none⟩) HGW.out).trans x2;have u3:=(hS1.cell (p:=⟨g0,o0+i*9+3,none⟩) HGW.out).trans x3;have u4:=(hS1.cell (p:=⟨g0,o0+i*9+4,none⟩) HGW.out).trans x4;have u5:=(hS1.cell (p:=⟨g0,o0+i*9+5,none⟩) HGW.out).trans x5;have u6:=(hS1.cell (p:=⟨g0,o0+i*9+6,none⟩) HGW.out).trans x6;have u7:=(hS1.cell (p:=⟨g0,o0+i*9+7,none⟩) HGW.out).trans x7;have u8:=(hS1.cell (p:=⟨g0,o0+i*9+8,none⟩) HGW.out).trans x8;clear x0 x1 x2 x3 x4 x5 x6 x7 x8)
    |(go_at_call 137;(with_reducible refine (KB _ hS1).out.mono ?_);rintro e W2 ⟨rfl,hb⟩;have hS2:=hS1.trans (hb.mono hS1.size);clear hb;clear u0 u1 u2 u3 u4 u5 u6 u7 u8;obtain ⟨x0,x1,x2,x3,x4,x5,x6,x7,x8⟩:=HX.out;have s0:=(hS2.cell (p:=⟨g0,o0+i*9,none⟩) HGW.out).trans x0;have s1:=(hS2.cell (p:=⟨g0,o0+i*9+1,none⟩) HGW.out).trans x1;have s2:=(hS2.cell (p:=⟨g0,o0+i*9+2,none⟩) HGW.out).trans x2;have s3:=(hS2.cell (p:=⟨g0,o0+i*9+3,none⟩) HGW.out).trans x3;have s4:=(hS2.cell (p:=⟨g0,o0+i*9+4,none⟩) HGW.out).trans x4;have s5:=(hS2.cell (p:=⟨g0,o0+i*9+5,none⟩) HGW.out).trans x5;have s6:=(hS2.cell (p:=⟨g0,o0+i*9+6,none⟩) HGW.out).trans x6;have s7:=(hS2.cell (p:=⟨g0,o0+i*9+7,none⟩) HGW.out).trans x7;have s8:=(hS2.cell (p:=⟨g0,o0+i*9+8,none⟩) HGW.out).trans x8;clear x0 x1 x2 x3 x4 x5 x6 x7 x8)
    |(go_at_call 137;(with_reducible refine (KE _ hS2).out.mono ?_);rintro e W3 ⟨rfl,hb⟩;have hS3:=hS2.trans (hb.mono hS2.size);clear hb;clear s0 s1 s2 s3 s4 s5 s6 s7 s8))
   go_roundw
   case rel=>exact ⟨i+1,rest,hlt,by go_num,HLE.out.1,HLE.out.2.1,HRS.out,HF.out,⟨HLE.out.2.2,HRR.out⟩,hS3⟩
   case measure=>simp[intOf];omega
section
open Go
def ulist (x:Nat):List UInt8 :=
 if h:x<128 then [x.toUInt8] else (x%128+128).toUInt8::ulist (x / 128)
termination_by x
decreasing_by omega
theorem ulist_small {x:Nat} (h:x<128):ulist x=[x.toUInt8]:=by rw[ulist,dif_pos h]
theorem ulist_big {x:Nat} (h:128≤x):ulist x=(x%128+128).toUInt8::ulist (x / 128):=by rw[ulist,dif_neg (by omega)]
theorem ulist_length:∀(k x:Nat),x<128^(k+1)→(ulist x).length≤k+1
 |0,x,h=>by rw[ulist_small (by simpa using h)];simp
 |k+1,x,h=>by
  by_cases hx:x<128
  ·rw[ulist_small hx];simp
  rw[ulist_big (by omega),QC]
  have:=ulist_length k (x / 128) (by rw[Nat.pow_succ]at h;exact Nat.div_lt_of_lt_mul (by rw[Nat.mul_comm];exact h))
  omega
theorem ulist_length64 {x:Nat} (h:x<18446744073709551616):(ulist x).length≤10 :=
 ulist_length 9 x (Nat.lt_of_lt_of_le h (by decide))
theorem ulist_pos (x:Nat):1≤(ulist x).length:=by
 by_cases hx:x<128
 ·rw[ulist_small hx];simp
 rw[ulist_big (by omega)];simp
def slist (m:Int):List UInt8 :=
 if h:-64≤m∧m<64 then [(m%128).toNat.toUInt8] else ((m%128).toNat+128).toUInt8::slist (m / 128)
termination_by m.natAbs
decreasing_by omega
theorem slist_small {m:Int} (h:-64≤m∧m<64):slist m=[(m%128).toNat.toUInt8]:=by rw[slist,dif_pos h]
theorem slist_big {m:Int} (h:¬(-64≤m∧m<64)):slist m=((m%128).toNat+128).toUInt8::slist (m / 128):=by rw[slist,dif_neg h]
theorem slist_length:∀(k:Nat) (m:Int),-(64*128^k:Nat)≤m→m<(64*128^k:Nat)→(slist m).length≤k+1
 |0,m,h,h'=>by rw[slist_small (by constructor<;>simpa using by assumption)];simp
 |k+1,m,h,h'=>by
  by_cases hx:-64≤m∧m<64
  ·rw[slist_small hx];simp
  rw[slist_big hx,QC]
  have e:(64*128^(k+1):Nat)=128*(64*128^k):=by rw[Nat.pow_succ];omega
  rw[e]at h h'
  have:=slist_length k (m / 128) (by omega) (by omega)
  omega
theorem slist_length64 {m:Int} (h0:-9223372036854775808≤m) (h1:m≤9223372036854775807):(slist m).length≤10 :=
 slist_length 9 m (Int.le_trans (by decide) h0) (Int.lt_of_le_of_lt h1 (by decide))
theorem slist_pos (m:Int):1≤(slist m).length:=by
 by_cases hx:-64≤m∧m<64
 ·rw[slist_small hx];simp
 rw[slist_big hx];simp
theorem toUInt8_toNat {a:Nat} (h:a<256):(a.toUInt8).toNat=a:=by
 simp[Nat.toUInt8,UInt8.toNat_ofNat']
 omega
theorem byteCells_snoc (pre:List UInt8) {a:Nat} (h:a<256):QY (pre++[a.toUInt8])=QY pre++[Value.int .u8 (a:Int)]:=by
 rw[Lib.byteCells_append]
 simp[QY,toUInt8_toNat h]
theorem or128_nat:∀a:Fin 256,(a.val ||| 128)=a.val%128+128:=by decide
theorem u8_or128 (a:Int) (h₀:0≤a) (h₁:a<256):bits .or .u8 a 128=a%128+128:=by
 obtain ⟨n,rfl⟩:=Int.eq_ofNat_of_zero_le h₀
 have hn:n<256:=by omega
 have h:=(bits_nat .u8 8 (by decide) wraps_u8 n 128 (by simpa using hn) (by decide)).2
 have e:((128:Nat):Int)=128:=rfl
 rw[e]at h
 have h2:(n ||| 128)=n%128+128:=or128_nat ⟨n,hn⟩
 rw[h,h2]
 omega
theorem u8_and127 (x:Int) (h₀:0≤x) (h₁:x<256):bits .and .u8 x 127=x%128:=bits_mask .u8 8 (by decide) wraps_u8 7 (by decide) x h₀ h₁
theorem tmod128_neg {y:Int} (h:y<0):y.tmod 128=-((-y)%128):=by
 have:=Int.neg_tmod (-y) 128
 rw[Int.neg_neg]at this
 rw[this,Int.tmod_eq_emod_of_nonneg (by omega)]
theorem tmod128_pos {y:Int} (h:0≤y):y.tmod 128=y%128:=Int.tmod_eq_emod_of_nonneg h
theorem tdiv128_exact {y d:Int} (h:y%128=d):(y-d).tdiv 128=y / 128:=by
 have e:y-d=128*(y / 128):=by omega
 rw[e,Int.mul_tdiv_cancel_left _ (by decide)]
end
end Go.Proofs.YtjgeedgphcjhoaaGreat
