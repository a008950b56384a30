/-
  Block, Ins1, Ins2, Ins3, Ins4, Ins5: merged, what the law does not reach left out (each text says what it holds where it lies in wip). No condition.
-/
import Derived.Test.YtjgeedgphcjhoaaGreatS02
import Derived.Test.YtjgeedgphcjhoaaGreatS01
set_option linter.unusedSimpArgs false
set_option linter.unusedVariables false
set_option maxRecDepth 100000
set_option maxHeartbeats 64000000
namespace Go.Proofs.YtjgeedgphcjhoaaGreat
open Go.RowKit
open Value renaming int → I,slice → V,bool → G
open IntKind renaming i64 → J,u64 → O
open Ending renaming returned → Qr
open Obj renaming cells → Qc
open _root_.Go.Proofs.Tryz renaming prog → QP
open Nat renaming le_refl → Ql,le_trans → Qk
open Below renaming refl → QB
def blB (op a b:Int) (n h:Nat) (ot:Bool) (nl nb ne:Nat):Bool:=(if a=0 then b==0 else if a=1 then valB b else if a=2 then idxB b else false)&&(if op=4∧ot=true then unB 0 0 n h false nl 0 0 else unB 0 0 n h ot nl 0 ne)
theorem isBlock_says (op a b:Int) (n h:Nat) (pl pb pe:Option Addr) (nl cl nb cb ne ce:Nat) (ot:Bool) (w:World):Calls QP 234 #[.agg #[I J op,I J a,I J b,I O n,I O h,V pl nl cl,V pb nb cb,V pe ne ce,G ot]] w fun e w'=>e=Qr (G (blB op a b n h ot nl nb ne))∧Below w.heap.size w w':=by
 have HV:=fun W=>hid (isVal_says b W)
 have HI:=fun W=>hid (isIndex_says b W)
 have HU1:=fun W=>hid (isUnused_says op 0 0 n h pl none pe nl cl 0 0 ne ce ot W)
 have HU2:=fun W=>hid (isUnused_says op 0 0 n h pl none none nl cl 0 0 0 0 false W)
 have HA:=fun x=>hid ((QB w.heap.size w).alloc (Ql _) x)
 unfold blB
 generalize unB 0 0 n h ot nl 0 ne=u1 at *
 generalize unB 0 0 n h false nl 0 0=u2 at *
 generalize valB b=vb at *
 generalize idxB b=ib at *
 obtain ⟨zb,dz⟩:∃x,(b==0)=x:=⟨_,rfl⟩
 rw[dz]
 obtain ⟨t,dt⟩:∃t,t=(if a=0 then zb else if a=1 then vb else if a=2 then ib else false):=⟨_,rfl⟩
 rw[←dt]
 have HK:∃k:Nat,(k=0∧(a==0)=true∧t=zb)∨(k=1∧(a==0)=false∧(a==1)=true∧t=vb)∨(k=2∧(a==0)=false∧(a==1)=false∧(a==2)=true∧t=ib)∨(k=3∧(a==0)=false∧(a==1)=false∧(a==2)=false∧t=false):=by
  by_cases h0:a=0
  ·exact ⟨0,.inl ⟨rfl,by simp[h0],by rw[dt,if_pos h0]⟩⟩
  by_cases h1:a=1
  ·exact ⟨1,.inr (.inl ⟨rfl,by simp[h0],by simp[h1],by rw[dt,if_neg h0,if_pos h1]⟩)⟩
  by_cases h2:a=2
  ·exact ⟨2,.inr (.inr (.inl ⟨rfl,by simp[h0],by simp[h1],by simp[h2],by rw[dt,if_neg h0,if_neg h1,if_pos h2]⟩))⟩
  exact ⟨3,.inr (.inr (.inr ⟨rfl,by simp[h0],by simp[h1],by simp[h2],by rw[dt,if_neg h0,if_neg h1,if_neg h2]⟩))⟩
 obtain ⟨y,dy⟩:∃y,y=(if op=4∧ot=true then u2 else u1):=⟨_,rfl⟩
 rw[←dy]
 have HO:((op==4)=false∧y=u1)∨((op==4)=true∧ot=false∧y=u1)∨((op==4)=true∧ot=true∧y=u2):=by
  by_cases h0:op=4
  ·cases ot
   ·exact .inr (.inl ⟨by simp[h0],rfl,by rw[dy,if_neg (by simp)]⟩)
   exact .inr (.inr ⟨by simp[h0],rfl,by rw[dy,if_pos ⟨h0,rfl⟩]⟩)
  exact .inl ⟨by simp[h0],by rw[dy,if_neg (fun h=>h0 h.1)]⟩
 clear dt dy
 obtain ⟨k,hk⟩:=HK
 rcases hk with ⟨rfl,e1,rfl⟩|⟨rfl,e1,e2,rfl⟩|⟨rfl,e1,e2,e3,rfl⟩|⟨rfl,e1,e2,e3,rfl⟩
 ·rcases HO with ⟨q1,rfl⟩|⟨q1,rfl,rfl⟩|⟨q1,rfl,rfl⟩
  ·cases t
   ·go_enter Tryz.func234,Tryz.ntmps234
    go_wp2_with (first
     |(go_at_call 144;(with_reducible refine (HV _).out.mono ?_);rintro e w1 ⟨rfl,rfl⟩)
     |(go_at_call 145;(with_reducible refine (HI _).out.mono ?_);rintro e w1 ⟨rfl,rfl⟩)
     |(go_at_call 236;(with_reducible refine (HU1 _).out.mono ?_);rintro e w2 ⟨rfl,hb2⟩;have HB2:=hid hb2;clear hb2))
    go_ret
    exact ⟨by simp,(HA _).out⟩
   go_enter Tryz.func234,Tryz.ntmps234
   go_wp2_with (first
    |(go_at_call 144;(with_reducible refine (HV _).out.mono ?_);rintro e w1 ⟨rfl,rfl⟩)
    |(go_at_call 145;(with_reducible refine (HI _).out.mono ?_);rintro e w1 ⟨rfl,rfl⟩)
    |(go_at_call 236;(with_reducible refine (HU1 _).out.mono ?_);rintro e w2 ⟨rfl,hb2⟩;have HB2:=hid hb2;clear hb2))
   go_ret
   exact ⟨by simp,((HA _).out).trans (HB2.out.mono ((HA _).out).size)⟩
  ·cases t
   ·go_enter Tryz.func234,Tryz.ntmps234
    go_wp2_with (first
     |(go_at_call 144;(with_reducible refine (HV _).out.mono ?_);rintro e w1 ⟨rfl,rfl⟩)
     |(go_at_call 145;(with_reducible refine (HI _).out.mono ?_);rintro e w1 ⟨rfl,rfl⟩)
     |(go_at_call 236;(with_reducible refine (HU1 _).out.mono ?_);rintro e w2 ⟨rfl,hb2⟩;have HB2:=hid hb2;clear hb2))
    go_ret
    exact ⟨by simp,(HA _).out⟩
   go_enter Tryz.func234,Tryz.ntmps234
   go_wp2_with (first
    |(go_at_call 144;(with_reducible refine (HV _).out.mono ?_);rintro e w1 ⟨rfl,rfl⟩)
    |(go_at_call 145;(with_reducible refine (HI _).out.mono ?_);rintro e w1 ⟨rfl,rfl⟩)
    |(go_at_call 236;(with_reducible refine (HU1 _).out.mono ?_);rintro e w2 ⟨rfl,hb2⟩;have HB2:=hid hb2;clear hb2))
   go_ret
   exact ⟨by simp,((HA _).out).trans (HB2.out.mono ((HA _).out).size)⟩
  cases t
  ·go_enter Tryz.func234,Tryz.ntmps234
   go_wp2_with (first
    |(go_at_call 144;(with_reducible refine (HV _).out.mono ?_);rintro e w1 ⟨rfl,rfl⟩)
    |(go_at_call 145;(with_reducible refine (HI _).out.mono ?_);rintro e w1 ⟨rfl,rfl⟩)
    |(go_at_call 236;(with_reducible refine (HU2 _).out.mono ?_);rintro e w2 ⟨rfl,hb2⟩;have HB2:=hid hb2;clear hb2))
   go_ret
   exact ⟨by simp,(HA _).out⟩
  go_enter Tryz.func234,Tryz.ntmps234
  go_wp2_with (first
   |(go_at_call 144;(with_reducible refine (HV _).out.mono ?_);rintro e w1 ⟨rfl,rfl⟩)
   |(go_at_call 145;(with_reducible refine (HI _).out.mono ?_);rintro e w1 ⟨rfl,rfl⟩)
   |(go_at_call 236;(with_reducible refine (HU2 _).out.mono ?_);rintro e w2 ⟨rfl,hb2⟩;have HB2:=hid hb2;clear hb2))
  go_ret
  exact ⟨by simp,((HA _).out).trans (HB2.out.mono ((HA _).out).size)⟩
 ·rcases HO with ⟨q1,rfl⟩|⟨q1,rfl,rfl⟩|⟨q1,rfl,rfl⟩
  ·cases t
   ·go_enter Tryz.func234,Tryz.ntmps234
    go_wp2_with (first
     |(go_at_call 144;(with_reducible refine (HV _).out.mono ?_);rintro e w1 ⟨rfl,rfl⟩)
     |(go_at_call 145;(with_reducible refine (HI _).out.mono ?_);rintro e w1 ⟨rfl,rfl⟩)
     |(go_at_call 236;(with_reducible refine (HU1 _).out.mono ?_);rintro e w2 ⟨rfl,hb2⟩;have HB2:=hid hb2;clear hb2))
    go_ret
    exact ⟨by simp,(HA _).out⟩
   go_enter Tryz.func234,Tryz.ntmps234
   go_wp2_with (first
    |(go_at_call 144;(with_reducible refine (HV _).out.mono ?_);rintro e w1 ⟨rfl,rfl⟩)
    |(go_at_call 145;(with_reducible refine (HI _).out.mono ?_);rintro e w1 ⟨rfl,rfl⟩)
    |(go_at_call 236;(with_reducible refine (HU1 _).out.mono ?_);rintro e w2 ⟨rfl,hb2⟩;have HB2:=hid hb2;clear hb2))
   go_ret
   exact ⟨by simp,((HA _).out).trans (HB2.out.mono ((HA _).out).size)⟩
  ·cases t
   ·go_enter Tryz.func234,Tryz.ntmps234
    go_wp2_with (first
     |(go_at_call 144;(with_reducible refine (HV _).out.mono ?_);rintro e w1 ⟨rfl,rfl⟩)
     |(go_at_call 145;(with_reducible refine (HI _).out.mono ?_);rintro e w1 ⟨rfl,rfl⟩)
     |(go_at_call 236;(with_reducible refine (HU1 _).out.mono ?_);rintro e w2 ⟨rfl,hb2⟩;have HB2:=hid hb2;clear hb2))
    go_ret
    exact ⟨by simp,(HA _).out⟩
   go_enter Tryz.func234,Tryz.ntmps234
   go_wp2_with (first
    |(go_at_call 144;(with_reducible refine (HV _).out.mono ?_);rintro e w1 ⟨rfl,rfl⟩)
    |(go_at_call 145;(with_reducible refine (HI _).out.mono ?_);rintro e w1 ⟨rfl,rfl⟩)
    |(go_at_call 236;(with_reducible refine (HU1 _).out.mono ?_);rintro e w2 ⟨rfl,hb2⟩;have HB2:=hid hb2;clear hb2))
   go_ret
   exact ⟨by simp,((HA _).out).trans (HB2.out.mono ((HA _).out).size)⟩
  cases t
  ·go_enter Tryz.func234,Tryz.ntmps234
   go_wp2_with (first
    |(go_at_call 144;(with_reducible refine (HV _).out.mono ?_);rintro e w1 ⟨rfl,rfl⟩)
    |(go_at_call 145;(with_reducible refine (HI _).out.mono ?_);rintro e w1 ⟨rfl,rfl⟩)
    |(go_at_call 236;(with_reducible refine (HU2 _).out.mono ?_);rintro e w2 ⟨rfl,hb2⟩;have HB2:=hid hb2;clear hb2))
   go_ret
   exact ⟨by simp,(HA _).out⟩
  go_enter Tryz.func234,Tryz.ntmps234
  go_wp2_with (first
   |(go_at_call 144;(with_reducible refine (HV _).out.mono ?_);rintro e w1 ⟨rfl,rfl⟩)
   |(go_at_call 145;(with_reducible refine (HI _).out.mono ?_);rintro e w1 ⟨rfl,rfl⟩)
   |(go_at_call 236;(with_reducible refine (HU2 _).out.mono ?_);rintro e w2 ⟨rfl,hb2⟩;have HB2:=hid hb2;clear hb2))
  go_ret
  exact ⟨by simp,((HA _).out).trans (HB2.out.mono ((HA _).out).size)⟩
 ·rcases HO with ⟨q1,rfl⟩|⟨q1,rfl,rfl⟩|⟨q1,rfl,rfl⟩
  ·cases t
   ·go_enter Tryz.func234,Tryz.ntmps234
    go_wp2_with (first
     |(go_at_call 144;(with_reducible refine (HV _).out.mono ?_);rintro e w1 ⟨rfl,rfl⟩)
     |(go_at_call 145;(with_reducible refine (HI _).out.mono ?_);rintro e w1 ⟨rfl,rfl⟩)
     |(go_at_call 236;(with_reducible refine (HU1 _).out.mono ?_);rintro e w2 ⟨rfl,hb2⟩;have HB2:=hid hb2;clear hb2))
    go_ret
    exact ⟨by simp,(HA _).out⟩
   go_enter Tryz.func234,Tryz.ntmps234
   go_wp2_with (first
    |(go_at_call 144;(with_reducible refine (HV _).out.mono ?_);rintro e w1 ⟨rfl,rfl⟩)
    |(go_at_call 145;(with_reducible refine (HI _).out.mono ?_);rintro e w1 ⟨rfl,rfl⟩)
    |(go_at_call 236;(with_reducible refine (HU1 _).out.mono ?_);rintro e w2 ⟨rfl,hb2⟩;have HB2:=hid hb2;clear hb2))
   go_ret
   exact ⟨by simp,((HA _).out).trans (HB2.out.mono ((HA _).out).size)⟩
  ·cases t
   ·go_enter Tryz.func234,Tryz.ntmps234
    go_wp2_with (first
     |(go_at_call 144;(with_reducible refine (HV _).out.mono ?_);rintro e w1 ⟨rfl,rfl⟩)
     |(go_at_call 145;(with_reducible refine (HI _).out.mono ?_);rintro e w1 ⟨rfl,rfl⟩)
     |(go_at_call 236;(with_reducible refine (HU1 _).out.mono ?_);rintro e w2 ⟨rfl,hb2⟩;have HB2:=hid hb2;clear hb2))
    go_ret
    exact ⟨by simp,(HA _).out⟩
   go_enter Tryz.func234,Tryz.ntmps234
   go_wp2_with (first
    |(go_at_call 144;(with_reducible refine (HV _).out.mono ?_);rintro e w1 ⟨rfl,rfl⟩)
    |(go_at_call 145;(with_reducible refine (HI _).out.mono ?_);rintro e w1 ⟨rfl,rfl⟩)
    |(go_at_call 236;(with_reducible refine (HU1 _).out.mono ?_);rintro e w2 ⟨rfl,hb2⟩;have HB2:=hid hb2;clear hb2))
   go_ret
   exact ⟨by simp,((HA _).out).trans (HB2.out.mono ((HA _).out).size)⟩
  cases t
  ·go_enter Tryz.func234,Tryz.ntmps234
   go_wp2_with (first
    |(go_at_call 144;(with_reducible refine (HV _).out.mono ?_);rintro e w1 ⟨rfl,rfl⟩)
    |(go_at_call 145;(with_reducible refine (HI _).out.mono ?_);rintro e w1 ⟨rfl,rfl⟩)
    |(go_at_call 236;(with_reducible refine (HU2 _).out.mono ?_);rintro e w2 ⟨rfl,hb2⟩;have HB2:=hid hb2;clear hb2))
   go_ret
   exact ⟨by simp,(HA _).out⟩
  go_enter Tryz.func234,Tryz.ntmps234
  go_wp2_with (first
   |(go_at_call 144;(with_reducible refine (HV _).out.mono ?_);rintro e w1 ⟨rfl,rfl⟩)
   |(go_at_call 145;(with_reducible refine (HI _).out.mono ?_);rintro e w1 ⟨rfl,rfl⟩)
   |(go_at_call 236;(with_reducible refine (HU2 _).out.mono ?_);rintro e w2 ⟨rfl,hb2⟩;have HB2:=hid hb2;clear hb2))
  go_ret
  exact ⟨by simp,((HA _).out).trans (HB2.out.mono ((HA _).out).size)⟩
 rcases HO with ⟨q1,rfl⟩|⟨q1,rfl,rfl⟩|⟨q1,rfl,rfl⟩
 ·go_enter Tryz.func234,Tryz.ntmps234
  go_wp2_with (first
   |(go_at_call 144;(with_reducible refine (HV _).out.mono ?_);rintro e w1 ⟨rfl,rfl⟩)
   |(go_at_call 145;(with_reducible refine (HI _).out.mono ?_);rintro e w1 ⟨rfl,rfl⟩)
   |(go_at_call 236;(with_reducible refine (HU1 _).out.mono ?_);rintro e w2 ⟨rfl,hb2⟩;have HB2:=hid hb2;clear hb2))
  go_ret
  exact ⟨by simp,(HA _).out⟩
 ·go_enter Tryz.func234,Tryz.ntmps234
  go_wp2_with (first
   |(go_at_call 144;(with_reducible refine (HV _).out.mono ?_);rintro e w1 ⟨rfl,rfl⟩)
   |(go_at_call 145;(with_reducible refine (HI _).out.mono ?_);rintro e w1 ⟨rfl,rfl⟩)
   |(go_at_call 236;(with_reducible refine (HU1 _).out.mono ?_);rintro e w2 ⟨rfl,hb2⟩;have HB2:=hid hb2;clear hb2))
  go_ret
  exact ⟨by simp,(HA _).out⟩
 go_enter Tryz.func234,Tryz.ntmps234
 go_wp2_with (first
  |(go_at_call 144;(with_reducible refine (HV _).out.mono ?_);rintro e w1 ⟨rfl,rfl⟩)
  |(go_at_call 145;(with_reducible refine (HI _).out.mono ?_);rintro e w1 ⟨rfl,rfl⟩)
  |(go_at_call 236;(with_reducible refine (HU2 _).out.mono ?_);rintro e w2 ⟨rfl,hb2⟩;have HB2:=hid hb2;clear hb2))
 go_ret
 exact ⟨by simp,(HA _).out⟩
theorem ins_0 (K:Int) (hK:K=0∨K=11∨K=19) (op a b:Int) (n h:Nat) (l:List Int) (nl:Nat) (hnl:nl=l.length) (pl pb pe:Option Addr) (cl nb cb ne ce:Nat) (ot:Bool) (B:Nat) (w:World) (hB:B≤w.heap.size) (hl:LI B w (V pl nl cl) l) (hn:nl<9223372036854775807)
  (hk:∀W,Calls QP 233 #[I J op] W fun e w'=>e=Qr (G true)∧Below W.heap.size W w') (hi:∀W,Calls QP 152 #[I J op] W fun e w'=>e=Qr (I J K)∧Below W.heap.size W w') :
  Calls QP 214 #[.agg #[I J op,I J a,I J b,I O n,I O h,V pl nl cl,V pb nb cb,V pe ne ce,G ot]] w fun e w'=>e=Qr (G (unB a b n h ot nl nb ne))∧Below w.heap.size w w':=by
 rcases hK with rfl|rfl|rfl
 all_goals
  have HK:=fun W=>hid (hk W)
  have HI:=fun W=>hid (hi W)
  have HU:=fun W=>hid (isUnused_says op a b n h pl pb pe nl cl nb cb ne ce ot W)
  generalize unB a b n h ot nl nb ne=u at *
  try simp only[show ((0:Nat):Int)=0 from rfl]at HU
  have HBX:=hid ((QB w.heap.size w).alloc (Ql _) (Qc #[I J op,I J a,I J b,I O n,I O h,V pl nl cl,V pb nb cb,V pe ne ce,G ot] 39))
  have HX:=hid (CA.new w #[I J op,I J a,I J b,I O n,I O h,V pl nl cl,V pb nb cb,V pe ne ce,G ot] 39)
  clear hk hi hl hnl hn
  go_enter Tryz.func214,Tryz.ntmps214
  go_upto_region 50 with (first
   |(go_at_call 233;(with_reducible refine (HK _).out.mono ?_);rintro e w1 ⟨rfl,hb1⟩;have HB1:=Qd HBX hb1;have HX1:=Qe HX hb1;have z0:=HX1.out.at (k:=0) (v:=I J op) rfl;clear hb1)
   |(go_at_call 152;(with_reducible refine (HI _).out.mono ?_);rintro e w2 ⟨rfl,hb2⟩;have HB2:=Qd HB1 hb2;have HX2:=Qe HX1 hb2;obtain ⟨y0,y1,y2,y3,y4,y5,y6,y7,y8⟩:=ca9 HX2.out;clear hb2))
  have HX3:=hid HX2.out
  have HB3:=hid HB2.out
  clear y0 y1 y2 y3 y4 y5 y6 y7 y8 
  obtain ⟨x0,x1,x2,x3,x4,x5,x6,x7,x8⟩:=ca9 HX3.out
  go_wp2_with (go_at_call 236;(with_reducible refine (HU _).out.mono ?_);rintro e w4 ⟨rfl,hb4⟩)
  go_ret
  exact ⟨by simp,HB3.out.trans (hb4.mono HB3.out.size)⟩
theorem ins_2 (K:Int) (hK:K=2∨K=4∨K=7∨K=9∨K=17∨K=18∨K=21) (op a b:Int) (n h:Nat) (l:List Int) (nl:Nat) (hnl:nl=l.length) (pl pb pe:Option Addr) (cl nb cb ne ce:Nat) (ot:Bool) (B:Nat) (w:World) (hB:B≤w.heap.size) (hl:LI B w (V pl nl cl) l) (hn:nl<9223372036854775807)
  (hk:∀W,Calls QP 233 #[I J op] W fun e w'=>e=Qr (G true)∧Below W.heap.size W w') (hi:∀W,Calls QP 152 #[I J op] W fun e w'=>e=Qr (I J K)∧Below W.heap.size W w') :
  Calls QP 214 #[.agg #[I J op,I J a,I J b,I O n,I O h,V pl nl cl,V pb nb cb,V pe ne ce,G ot]] w fun e w'=>e=Qr (G ((idxB a)&&unB 0 b n h ot nl nb ne))∧Below w.heap.size w w':=by
 rcases hK with rfl|rfl|rfl|rfl|rfl|rfl|rfl
 all_goals
  have HK:=fun W=>hid (hk W)
  have HI:=fun W=>hid (hi W)
  have HU:=fun W=>hid (isUnused_says op 0 b n h pl pb pe nl cl nb cb ne ce ot W)
  generalize unB 0 b n h ot nl nb ne=u at *
  try simp only[show ((0:Nat):Int)=0 from rfl]at HU
  have HBX:=hid ((QB w.heap.size w).alloc (Ql _) (Qc #[I J op,I J a,I J b,I O n,I O h,V pl nl cl,V pb nb cb,V pe ne ce,G ot] 39))
  have HX:=hid (CA.new w #[I J op,I J a,I J b,I O n,I O h,V pl nl cl,V pb nb cb,V pe ne ce,G ot] 39)
  have HIA:=fun W=>hid (isIndex_says a W)
  generalize idxB a=ia at *
  clear hk hi hl hnl hn
  cases ia with
  |false =>
   go_enter Tryz.func214,Tryz.ntmps214
   go_upto_region 50 with (first
    |(go_at_call 233;(with_reducible refine (HK _).out.mono ?_);rintro e w1 ⟨rfl,hb1⟩;have HB1:=Qd HBX hb1;have HX1:=Qe HX hb1;have z0:=HX1.out.at (k:=0) (v:=I J op) rfl;clear hb1)
    |(go_at_call 152;(with_reducible refine (HI _).out.mono ?_);rintro e w2 ⟨rfl,hb2⟩;have HB2:=Qd HB1 hb2;have HX2:=Qe HX1 hb2;obtain ⟨y0,y1,y2,y3,y4,y5,y6,y7,y8⟩:=ca9 HX2.out;have f1:=HX2.out.free 1;clear hb2)
    |(go_at_call 145;(with_reducible refine (HIA _).out.mono ?_);rintro e w3 ⟨rfl,rfl⟩))
   have HX3:=hid (HX2.out.set (k:=1) (I J 0))
   have HB3:=hid (HB2.out.setCell (p:=⟨w.heap.size,1,none⟩) (Ql _) (I J 0))
   clear y0 y1 y2 y3 y4 y5 y6 y7 y8 f1
   generalize (w2.setCell ⟨w.heap.size,1,none⟩ (I J 0))=W3 at *
   go_wp2
   go_ret
   exact ⟨by simp,HB3.out⟩
  |true =>
   go_enter Tryz.func214,Tryz.ntmps214
   go_upto_region 50 with (first
    |(go_at_call 233;(with_reducible refine (HK _).out.mono ?_);rintro e w1 ⟨rfl,hb1⟩;have HB1:=Qd HBX hb1;have HX1:=Qe HX hb1;have z0:=HX1.out.at (k:=0) (v:=I J op) rfl;clear hb1)
    |(go_at_call 152;(with_reducible refine (HI _).out.mono ?_);rintro e w2 ⟨rfl,hb2⟩;have HB2:=Qd HB1 hb2;have HX2:=Qe HX1 hb2;obtain ⟨y0,y1,y2,y3,y4,y5,y6,y7,y8⟩:=ca9 HX2.out;have f1:=HX2.out.free 1;clear hb2)
    |(go_at_call 145;(with_reducible refine (HIA _).out.mono ?_);rintro e w3 ⟨rfl,rfl⟩))
   have HX3:=hid (HX2.out.set (k:=1) (I J 0))
   have HB3:=hid (HB2.out.setCell (p:=⟨w.heap.size,1,none⟩) (Ql _) (I J 0))
   clear y0 y1 y2 y3 y4 y5 y6 y7 y8 f1
   generalize (w2.setCell ⟨w.heap.size,1,none⟩ (I J 0))=W3 at *
   obtain ⟨x0,x1,x2,x3,x4,x5,x6,x7,x8⟩:=ca9 HX3.out
   go_wp2_with (go_at_call 236;(with_reducible refine (HU _).out.mono ?_);rintro e w4 ⟨rfl,hb4⟩)
   go_ret
   exact ⟨by simp,HB3.out.trans (hb4.mono HB3.out.size)⟩
theorem ins_8 (op a b:Int) (n h:Nat) (l:List Int) (nl:Nat) (hnl:nl=l.length) (pl pb pe:Option Addr) (cl nb cb ne ce:Nat) (ot:Bool) (B:Nat) (w:World) (hB:B≤w.heap.size) (hl:LI B w (V pl nl cl) l) (hn:nl<9223372036854775807)
  (hk:∀W,Calls QP 233 #[I J op] W fun e w'=>e=Qr (G true)∧Below W.heap.size W w') (hi:∀W,Calls QP 152 #[I J op] W fun e w'=>e=Qr (I J 8)∧Below W.heap.size W w') :
  Calls QP 214 #[.agg #[I J op,I J a,I J b,I O n,I O h,V pl nl cl,V pb nb cb,V pe ne ce,G ot]] w fun e w'=>e=Qr (G ((idxB a)&&unB 0 b n h ot nl nb ne))∧Below w.heap.size w w':=by
 have HK:=fun W=>hid (hk W)
 have HI:=fun W=>hid (hi W)
 have HU:=fun W=>hid (isUnused_says op 0 b n h pl pb pe nl cl nb cb ne ce ot W)
 generalize unB 0 b n h ot nl nb ne=u at *
 try simp only[show ((0:Nat):Int)=0 from rfl]at HU
 have HBX:=hid ((QB w.heap.size w).alloc (Ql _) (Qc #[I J op,I J a,I J b,I O n,I O h,V pl nl cl,V pb nb cb,V pe ne ce,G ot] 39))
 have HX:=hid (CA.new w #[I J op,I J a,I J b,I O n,I O h,V pl nl cl,V pb nb cb,V pe ne ce,G ot] 39)
 have HIA:=fun W=>hid (isIndex_says a W)
 generalize idxB a=ia at *
 clear hk hi hl hnl hn
 cases ia with
 |false =>
  go_enter Tryz.func214,Tryz.ntmps214
  go_upto_region 50 with (first
   |(go_at_call 233;(with_reducible refine (HK _).out.mono ?_);rintro e w1 ⟨rfl,hb1⟩;have HB1:=Qd HBX hb1;have HX1:=Qe HX hb1;have z0:=HX1.out.at (k:=0) (v:=I J op) rfl;clear hb1)
   |(go_at_call 152;(with_reducible refine (HI _).out.mono ?_);rintro e w2 ⟨rfl,hb2⟩;have HB2:=Qd HB1 hb2;have HX2:=Qe HX1 hb2;obtain ⟨y0,y1,y2,y3,y4,y5,y6,y7,y8⟩:=ca9 HX2.out;have f1:=HX2.out.free 1;clear hb2)
   |(go_at_call 145;(with_reducible refine (HIA _).out.mono ?_);rintro e w3 ⟨rfl,rfl⟩))
  have HX3:=hid (HX2.out.set (k:=1) (I J 0))
  have HB3:=hid (HB2.out.setCell (p:=⟨w.heap.size,1,none⟩) (Ql _) (I J 0))
  clear y0 y1 y2 y3 y4 y5 y6 y7 y8 f1
  generalize (w2.setCell ⟨w.heap.size,1,none⟩ (I J 0))=W3 at *
  go_wp2
  go_ret
  exact ⟨by simp,HB3.out⟩
 |true =>
  go_enter Tryz.func214,Tryz.ntmps214
  go_upto_region 50 with (first
   |(go_at_call 233;(with_reducible refine (HK _).out.mono ?_);rintro e w1 ⟨rfl,hb1⟩;have HB1:=Qd HBX hb1;have HX1:=Qe HX hb1;have z0:=HX1.out.at (k:=0) (v:=I J op) rfl;clear hb1)
   |(go_at_call 152;(with_reducible refine (HI _).out.mono ?_);rintro e w2 ⟨rfl,hb2⟩;have HB2:=Qd HB1 hb2;have HX2:=Qe HX1 hb2;obtain ⟨y0,y1,y2,y3,y4,y5,y6,y7,y8⟩:=ca9 HX2.out;have f1:=HX2.out.free 1;clear hb2)
   |(go_at_call 145;(with_reducible refine (HIA _).out.mono ?_);rintro e w3 ⟨rfl,rfl⟩))
  have HX3:=hid (HX2.out.set (k:=1) (I J 0))
  have HB3:=hid (HB2.out.setCell (p:=⟨w.heap.size,1,none⟩) (Ql _) (I J 0))
  clear y0 y1 y2 y3 y4 y5 y6 y7 y8 f1
  generalize (w2.setCell ⟨w.heap.size,1,none⟩ (I J 0))=W3 at *
  obtain ⟨x0,x1,x2,x3,x4,x5,x6,x7,x8⟩:=ca9 HX3.out
  go_wp2_with (go_at_call 236;(with_reducible refine (HU _).out.mono ?_);rintro e w4 ⟨rfl,hb4⟩)
  go_ret
  exact ⟨by simp,HB3.out.trans (hb4.mono HB3.out.size)⟩
theorem ins_16 (op a b:Int) (n h:Nat) (l:List Int) (nl:Nat) (hnl:nl=l.length) (pl pb pe:Option Addr) (cl nb cb ne ce:Nat) (ot:Bool) (B:Nat) (w:World) (hB:B≤w.heap.size) (hl:LI B w (V pl nl cl) l) (hn:nl<9223372036854775807)
  (hk:∀W,Calls QP 233 #[I J op] W fun e w'=>e=Qr (G true)∧Below W.heap.size W w') (hi:∀W,Calls QP 152 #[I J op] W fun e w'=>e=Qr (I J 16)∧Below W.heap.size W w') :
  Calls QP 214 #[.agg #[I J op,I J a,I J b,I O n,I O h,V pl nl cl,V pb nb cb,V pe ne ce,G ot]] w fun e w'=>e=Qr (G ((refB a)&&unB 0 b n h ot nl nb ne))∧Below w.heap.size w w':=by
 have HK:=fun W=>hid (hk W)
 have HI:=fun W=>hid (hi W)
 have HU:=fun W=>hid (isUnused_says op 0 b n h pl pb pe nl cl nb cb ne ce ot W)
 generalize unB 0 b n h ot nl nb ne=u at *
 try simp only[show ((0:Nat):Int)=0 from rfl]at HU
 have HBX:=hid ((QB w.heap.size w).alloc (Ql _) (Qc #[I J op,I J a,I J b,I O n,I O h,V pl nl cl,V pb nb cb,V pe ne ce,G ot] 39))
 have HX:=hid (CA.new w #[I J op,I J a,I J b,I O n,I O h,V pl nl cl,V pb nb cb,V pe ne ce,G ot] 39)
 have HRA:=fun W=>hid (isRef_says a W)
 generalize refB a=ra at *
 clear hk hi hl hnl hn
 cases ra with
 |false =>
  go_enter Tryz.func214,Tryz.ntmps214
  go_upto_region 50 with (first
   |(go_at_call 233;(with_reducible refine (HK _).out.mono ?_);rintro e w1 ⟨rfl,hb1⟩;have HB1:=Qd HBX hb1;have HX1:=Qe HX hb1;have z0:=HX1.out.at (k:=0) (v:=I J op) rfl;clear hb1)
   |(go_at_call 152;(with_reducible refine (HI _).out.mono ?_);rintro e w2 ⟨rfl,hb2⟩;have HB2:=Qd HB1 hb2;have HX2:=Qe HX1 hb2;obtain ⟨y0,y1,y2,y3,y4,y5,y6,y7,y8⟩:=ca9 HX2.out;have f1:=HX2.out.free 1;clear hb2)
   |(go_at_call 149;(with_reducible refine (HRA _).out.mono ?_);rintro e w3 ⟨rfl,rfl⟩))
  have HX3:=hid (HX2.out.set (k:=1) (I J 0))
  have HB3:=hid (HB2.out.setCell (p:=⟨w.heap.size,1,none⟩) (Ql _) (I J 0))
  clear y0 y1 y2 y3 y4 y5 y6 y7 y8 f1
  generalize (w2.setCell ⟨w.heap.size,1,none⟩ (I J 0))=W3 at *
  go_wp2
  go_ret
  exact ⟨by simp,HB3.out⟩
 |true =>
  go_enter Tryz.func214,Tryz.ntmps214
  go_upto_region 50 with (first
   |(go_at_call 233;(with_reducible refine (HK _).out.mono ?_);rintro e w1 ⟨rfl,hb1⟩;have HB1:=Qd HBX hb1;have HX1:=Qe HX hb1;have z0:=HX1.out.at (k:=0) (v:=I J op) rfl;clear hb1)
   |(go_at_call 152;(with_reducible refine (HI _).out.mono ?_);rintro e w2 ⟨rfl,hb2⟩;have HB2:=Qd HB1 hb2;have HX2:=Qe HX1 hb2;obtain ⟨y0,y1,y2,y3,y4,y5,y6,y7,y8⟩:=ca9 HX2.out;have f1:=HX2.out.free 1;clear hb2)
   |(go_at_call 149;(with_reducible refine (HRA _).out.mono ?_);rintro e w3 ⟨rfl,rfl⟩))
  have HX3:=hid (HX2.out.set (k:=1) (I J 0))
  have HB3:=hid (HB2.out.setCell (p:=⟨w.heap.size,1,none⟩) (Ql _) (I J 0))
  clear y0 y1 y2 y3 y4 y5 y6 y7 y8 f1
  generalize (w2.setCell ⟨w.heap.size,1,none⟩ (I J 0))=W3 at *
  obtain ⟨x0,x1,x2,x3,x4,x5,x6,x7,x8⟩:=ca9 HX3.out
  go_wp2_with (go_at_call 236;(with_reducible refine (HU _).out.mono ?_);rintro e w4 ⟨rfl,hb4⟩)
  go_ret
  exact ⟨by simp,HB3.out.trans (hb4.mono HB3.out.size)⟩
theorem ins_25 (op a b:Int) (n h:Nat) (l:List Int) (nl:Nat) (hnl:nl=l.length) (pl pb pe:Option Addr) (cl nb cb ne ce:Nat) (ot:Bool) (B:Nat) (w:World) (hB:B≤w.heap.size) (hl:LI B w (V pl nl cl) l) (hn:nl<9223372036854775807)
  (hk:∀W,Calls QP 233 #[I J op] W fun e w'=>e=Qr (G true)∧Below W.heap.size W w') (hi:∀W,Calls QP 152 #[I J op] W fun e w'=>e=Qr (I J 25)∧Below W.heap.size W w') :
  Calls QP 214 #[.agg #[I J op,I J a,I J b,I O n,I O h,V pl nl cl,V pb nb cb,V pe ne ce,G ot]] w fun e w'=>e=Qr (G ((byteB a)&&unB 0 b n h ot nl nb ne))∧Below w.heap.size w w':=by
 have HK:=fun W=>hid (hk W)
 have HI:=fun W=>hid (hi W)
 have HU:=fun W=>hid (isUnused_says op 0 b n h pl pb pe nl cl nb cb ne ce ot W)
 generalize unB 0 b n h ot nl nb ne=u at *
 try simp only[show ((0:Nat):Int)=0 from rfl]at HU
 have HBX:=hid ((QB w.heap.size w).alloc (Ql _) (Qc #[I J op,I J a,I J b,I O n,I O h,V pl nl cl,V pb nb cb,V pe ne ce,G ot] 39))
 have HX:=hid (CA.new w #[I J op,I J a,I J b,I O n,I O h,V pl nl cl,V pb nb cb,V pe ne ce,G ot] 39)
 have HBA:=fun W=>hid (isByte_says a W)
 generalize byteB a=ba at *
 clear hk hi hl hnl hn
 cases ba with
 |false =>
  go_enter Tryz.func214,Tryz.ntmps214
  go_upto_region 50 with (first
   |(go_at_call 233;(with_reducible refine (HK _).out.mono ?_);rintro e w1 ⟨rfl,hb1⟩;have HB1:=Qd HBX hb1;have HX1:=Qe HX hb1;have z0:=HX1.out.at (k:=0) (v:=I J op) rfl;clear hb1)
   |(go_at_call 152;(with_reducible refine (HI _).out.mono ?_);rintro e w2 ⟨rfl,hb2⟩;have HB2:=Qd HB1 hb2;have HX2:=Qe HX1 hb2;obtain ⟨y0,y1,y2,y3,y4,y5,y6,y7,y8⟩:=ca9 HX2.out;have f1:=HX2.out.free 1;clear hb2)
   |(go_at_call 235;(with_reducible refine (HBA _).out.mono ?_);rintro e w3 ⟨rfl,rfl⟩))
  have HX3:=hid (HX2.out.set (k:=1) (I J 0))
  have HB3:=hid (HB2.out.setCell (p:=⟨w.heap.size,1,none⟩) (Ql _) (I J 0))
  clear y0 y1 y2 y3 y4 y5 y6 y7 y8 f1
  generalize (w2.setCell ⟨w.heap.size,1,none⟩ (I J 0))=W3 at *
  go_wp2
  go_ret
  exact ⟨by simp,HB3.out⟩
 |true =>
  go_enter Tryz.func214,Tryz.ntmps214
  go_upto_region 50 with (first
   |(go_at_call 233;(with_reducible refine (HK _).out.mono ?_);rintro e w1 ⟨rfl,hb1⟩;have HB1:=Qd HBX hb1;have HX1:=Qe HX hb1;have z0:=HX1.out.at (k:=0) (v:=I J op) rfl;clear hb1)
   |(go_at_call 152;(with_reducible refine (HI _).out.mono ?_);rintro e w2 ⟨rfl,hb2⟩;have HB2:=Qd HB1 hb2;have HX2:=Qe HX1 hb2;obtain ⟨y0,y1,y2,y3,y4,y5,y6,y7,y8⟩:=ca9 HX2.out;have f1:=HX2.out.free 1;clear hb2)
   |(go_at_call 235;(with_reducible refine (HBA _).out.mono ?_);rintro e w3 ⟨rfl,rfl⟩))
  have HX3:=hid (HX2.out.set (k:=1) (I J 0))
  have HB3:=hid (HB2.out.setCell (p:=⟨w.heap.size,1,none⟩) (Ql _) (I J 0))
  clear y0 y1 y2 y3 y4 y5 y6 y7 y8 f1
  generalize (w2.setCell ⟨w.heap.size,1,none⟩ (I J 0))=W3 at *
  obtain ⟨x0,x1,x2,x3,x4,x5,x6,x7,x8⟩:=ca9 HX3.out
  go_wp2_with (go_at_call 236;(with_reducible refine (HU _).out.mono ?_);rintro e w4 ⟨rfl,hb4⟩)
  go_ret
  exact ⟨by simp,HB3.out.trans (hb4.mono HB3.out.size)⟩
theorem ins_5 (K:Int) (hK:K=5∨K=20∨K=22) (op a b:Int) (n h:Nat) (l:List Int) (nl:Nat) (hnl:nl=l.length) (pl pb pe:Option Addr) (cl nb cb ne ce:Nat) (ot:Bool) (B:Nat) (w:World) (hB:B≤w.heap.size) (hl:LI B w (V pl nl cl) l) (hn:nl<9223372036854775807)
  (hk:∀W,Calls QP 233 #[I J op] W fun e w'=>e=Qr (G true)∧Below W.heap.size W w') (hi:∀W,Calls QP 152 #[I J op] W fun e w'=>e=Qr (I J K)∧Below W.heap.size W w') :
  Calls QP 214 #[.agg #[I J op,I J a,I J b,I O n,I O h,V pl nl cl,V pb nb cb,V pe ne ce,G ot]] w fun e w'=>e=Qr (G ((idxB a&&idxB b)&&unB 0 0 n h ot nl nb ne))∧Below w.heap.size w w':=by
 rcases hK with rfl|rfl|rfl
 all_goals
  have HK:=fun W=>hid (hk W)
  have HI:=fun W=>hid (hi W)
  have HU:=fun W=>hid (isUnused_says op 0 0 n h pl pb pe nl cl nb cb ne ce ot W)
  generalize unB 0 0 n h ot nl nb ne=u at *
  try simp only[show ((0:Nat):Int)=0 from rfl]at HU
  have HBX:=hid ((QB w.heap.size w).alloc (Ql _) (Qc #[I J op,I J a,I J b,I O n,I O h,V pl nl cl,V pb nb cb,V pe ne ce,G ot] 39))
  have HX:=hid (CA.new w #[I J op,I J a,I J b,I O n,I O h,V pl nl cl,V pb nb cb,V pe ne ce,G ot] 39)
  have HIA:=fun W=>hid (isIndex_says a W)
  generalize idxB a=ia at *
  have HIB:=fun W=>hid (isIndex_says b W)
  generalize idxB b=ib at *
  clear hk hi hl hnl hn
  cases ia with
  |false =>
   go_enter Tryz.func214,Tryz.ntmps214
   go_upto_region 50 with (first
    |(go_at_call 233;(with_reducible refine (HK _).out.mono ?_);rintro e w1 ⟨rfl,hb1⟩;have HB1:=Qd HBX hb1;have HX1:=Qe HX hb1;have z0:=HX1.out.at (k:=0) (v:=I J op) rfl;clear hb1)
    |(go_at_call 152;(with_reducible refine (HI _).out.mono ?_);rintro e w2 ⟨rfl,hb2⟩;have HB2:=Qd HB1 hb2;have HX2:=Qe HX1 hb2;obtain ⟨y0,y1,y2,y3,y4,y5,y6,y7,y8⟩:=ca9 HX2.out;have f1:=HX2.out.free 1;have f2:=HX2.out.free 2;clear hb2)
    |(go_at_call 145;(with_reducible refine (HIA _).out.mono ?_);rintro e w3 ⟨rfl,rfl⟩)
    |(go_at_call 145;(with_reducible refine (HIB _).out.mono ?_);rintro e w3 ⟨rfl,rfl⟩))
   have HX3:=hid ((HX2.out.set (k:=1) (I J 0)).set (k:=2) (I J 0))
   have HB3:=hid ((HB2.out.setCell (p:=⟨w.heap.size,1,none⟩) (Ql _) (I J 0)).setCell (p:=⟨w.heap.size,2,none⟩) (Ql _) (I J 0))
   clear y0 y1 y2 y3 y4 y5 y6 y7 y8 f1 f2
   generalize ((w2.setCell ⟨w.heap.size,1,none⟩ (I J 0)).setCell ⟨w.heap.size,2,none⟩ (I J 0))=W3 at *
   go_wp2
   go_ret
   exact ⟨by simp,HB3.out⟩
  |true =>
   cases ib with
   |false =>
    go_enter Tryz.func214,Tryz.ntmps214
    go_upto_region 50 with (first
     |(go_at_call 233;(with_reducible refine (HK _).out.mono ?_);rintro e w1 ⟨rfl,hb1⟩;have HB1:=Qd HBX hb1;have HX1:=Qe HX hb1;have z0:=HX1.out.at (k:=0) (v:=I J op) rfl;clear hb1)
     |(go_at_call 152;(with_reducible refine (HI _).out.mono ?_);rintro e w2 ⟨rfl,hb2⟩;have HB2:=Qd HB1 hb2;have HX2:=Qe HX1 hb2;obtain ⟨y0,y1,y2,y3,y4,y5,y6,y7,y8⟩:=ca9 HX2.out;have f1:=HX2.out.free 1;have f2:=HX2.out.free 2;clear hb2)
     |(go_at_call 145;(with_reducible refine (HIA _).out.mono ?_);rintro e w3 ⟨rfl,rfl⟩)
     |(go_at_call 145;(with_reducible refine (HIB _).out.mono ?_);rintro e w3 ⟨rfl,rfl⟩))
    have HX3:=hid ((HX2.out.set (k:=1) (I J 0)).set (k:=2) (I J 0))
    have HB3:=hid ((HB2.out.setCell (p:=⟨w.heap.size,1,none⟩) (Ql _) (I J 0)).setCell (p:=⟨w.heap.size,2,none⟩) (Ql _) (I J 0))
    clear y0 y1 y2 y3 y4 y5 y6 y7 y8 f1 f2
    generalize ((w2.setCell ⟨w.heap.size,1,none⟩ (I J 0)).setCell ⟨w.heap.size,2,none⟩ (I J 0))=W3 at *
    go_wp2
    go_ret
    exact ⟨by simp,HB3.out⟩
   |true =>
    go_enter Tryz.func214,Tryz.ntmps214
    go_upto_region 50 with (first
     |(go_at_call 233;(with_reducible refine (HK _).out.mono ?_);rintro e w1 ⟨rfl,hb1⟩;have HB1:=Qd HBX hb1;have HX1:=Qe HX hb1;have z0:=HX1.out.at (k:=0) (v:=I J op) rfl;clear hb1)
     |(go_at_call 152;(with_reducible refine (HI _).out.mono ?_);rintro e w2 ⟨rfl,hb2⟩;have HB2:=Qd HB1 hb2;have HX2:=Qe HX1 hb2;obtain ⟨y0,y1,y2,y3,y4,y5,y6,y7,y8⟩:=ca9 HX2.out;have f1:=HX2.out.free 1;have f2:=HX2.out.free 2;clear hb2)
     |(go_at_call 145;(with_reducible refine (HIA _).out.mono ?_);rintro e w3 ⟨rfl,rfl⟩)
     |(go_at_call 145;(with_reducible refine (HIB _).out.mono ?_);rintro e w3 ⟨rfl,rfl⟩))
    have HX3:=hid ((HX2.out.set (k:=1) (I J 0)).set (k:=2) (I J 0))
    have HB3:=hid ((HB2.out.setCell (p:=⟨w.heap.size,1,none⟩) (Ql _) (I J 0)).setCell (p:=⟨w.heap.size,2,none⟩) (Ql _) (I J 0))
    clear y0 y1 y2 y3 y4 y5 y6 y7 y8 f1 f2
    generalize ((w2.setCell ⟨w.heap.size,1,none⟩ (I J 0)).setCell ⟨w.heap.size,2,none⟩ (I J 0))=W3 at *
    obtain ⟨x0,x1,x2,x3,x4,x5,x6,x7,x8⟩:=ca9 HX3.out
    go_wp2_with (go_at_call 236;(with_reducible refine (HU _).out.mono ?_);rintro e w4 ⟨rfl,hb4⟩)
    go_ret
    exact ⟨by simp,HB3.out.trans (hb4.mono HB3.out.size)⟩
theorem ins_10 (op a b:Int) (n h:Nat) (l:List Int) (nl:Nat) (hnl:nl=l.length) (pl pb pe:Option Addr) (cl nb cb ne ce:Nat) (ot:Bool) (B:Nat) (w:World) (hB:B≤w.heap.size) (hl:LI B w (V pl nl cl) l) (hn:nl<9223372036854775807)
  (hk:∀W,Calls QP 233 #[I J op] W fun e w'=>e=Qr (G true)∧Below W.heap.size W w') (hi:∀W,Calls QP 152 #[I J op] W fun e w'=>e=Qr (I J 10)∧Below W.heap.size W w') :
  Calls QP 214 #[.agg #[I J op,I J a,I J b,I O n,I O h,V pl nl cl,V pb nb cb,V pe ne ce,G ot]] w fun e w'=>e=Qr (G ((idxB a&&idxB b)&&unB 0 0 n h ot nl nb ne))∧Below w.heap.size w w':=by
 have HK:=fun W=>hid (hk W)
 have HI:=fun W=>hid (hi W)
 have HU:=fun W=>hid (isUnused_says op 0 0 n h pl pb pe nl cl nb cb ne ce ot W)
 generalize unB 0 0 n h ot nl nb ne=u at *
 try simp only[show ((0:Nat):Int)=0 from rfl]at HU
 have HBX:=hid ((QB w.heap.size w).alloc (Ql _) (Qc #[I J op,I J a,I J b,I O n,I O h,V pl nl cl,V pb nb cb,V pe ne ce,G ot] 39))
 have HX:=hid (CA.new w #[I J op,I J a,I J b,I O n,I O h,V pl nl cl,V pb nb cb,V pe ne ce,G ot] 39)
 have HIA:=fun W=>hid (isIndex_says a W)
 generalize idxB a=ia at *
 have HIB:=fun W=>hid (isIndex_says b W)
 generalize idxB b=ib at *
 clear hk hi hl hnl hn
 cases ia with
 |false =>
  go_enter Tryz.func214,Tryz.ntmps214
  go_upto_region 50 with (first
   |(go_at_call 233;(with_reducible refine (HK _).out.mono ?_);rintro e w1 ⟨rfl,hb1⟩;have HB1:=Qd HBX hb1;have HX1:=Qe HX hb1;have z0:=HX1.out.at (k:=0) (v:=I J op) rfl;clear hb1)
   |(go_at_call 152;(with_reducible refine (HI _).out.mono ?_);rintro e w2 ⟨rfl,hb2⟩;have HB2:=Qd HB1 hb2;have HX2:=Qe HX1 hb2;obtain ⟨y0,y1,y2,y3,y4,y5,y6,y7,y8⟩:=ca9 HX2.out;have f1:=HX2.out.free 1;have f2:=HX2.out.free 2;clear hb2)
   |(go_at_call 145;(with_reducible refine (HIA _).out.mono ?_);rintro e w3 ⟨rfl,rfl⟩)
   |(go_at_call 145;(with_reducible refine (HIB _).out.mono ?_);rintro e w3 ⟨rfl,rfl⟩))
  have HX3:=hid ((HX2.out.set (k:=1) (I J 0)).set (k:=2) (I J 0))
  have HB3:=hid ((HB2.out.setCell (p:=⟨w.heap.size,1,none⟩) (Ql _) (I J 0)).setCell (p:=⟨w.heap.size,2,none⟩) (Ql _) (I J 0))
  clear y0 y1 y2 y3 y4 y5 y6 y7 y8 f1 f2
  generalize ((w2.setCell ⟨w.heap.size,1,none⟩ (I J 0)).setCell ⟨w.heap.size,2,none⟩ (I J 0))=W3 at *
  go_wp2
  go_ret
  exact ⟨by simp,HB3.out⟩
 |true =>
  cases ib with
  |false =>
   go_enter Tryz.func214,Tryz.ntmps214
   go_upto_region 50 with (first
    |(go_at_call 233;(with_reducible refine (HK _).out.mono ?_);rintro e w1 ⟨rfl,hb1⟩;have HB1:=Qd HBX hb1;have HX1:=Qe HX hb1;have z0:=HX1.out.at (k:=0) (v:=I J op) rfl;clear hb1)
    |(go_at_call 152;(with_reducible refine (HI _).out.mono ?_);rintro e w2 ⟨rfl,hb2⟩;have HB2:=Qd HB1 hb2;have HX2:=Qe HX1 hb2;obtain ⟨y0,y1,y2,y3,y4,y5,y6,y7,y8⟩:=ca9 HX2.out;have f1:=HX2.out.free 1;have f2:=HX2.out.free 2;clear hb2)
    |(go_at_call 145;(with_reducible refine (HIA _).out.mono ?_);rintro e w3 ⟨rfl,rfl⟩)
    |(go_at_call 145;(with_reducible refine (HIB _).out.mono ?_);rintro e w3 ⟨rfl,rfl⟩))
   have HX3:=hid ((HX2.out.set (k:=1) (I J 0)).set (k:=2) (I J 0))
   have HB3:=hid ((HB2.out.setCell (p:=⟨w.heap.size,1,none⟩) (Ql _) (I J 0)).setCell (p:=⟨w.heap.size,2,none⟩) (Ql _) (I J 0))
   clear y0 y1 y2 y3 y4 y5 y6 y7 y8 f1 f2
   generalize ((w2.setCell ⟨w.heap.size,1,none⟩ (I J 0)).setCell ⟨w.heap.size,2,none⟩ (I J 0))=W3 at *
   go_wp2
   go_ret
   exact ⟨by simp,HB3.out⟩
  |true =>
   go_enter Tryz.func214,Tryz.ntmps214
   go_upto_region 50 with (first
    |(go_at_call 233;(with_reducible refine (HK _).out.mono ?_);rintro e w1 ⟨rfl,hb1⟩;have HB1:=Qd HBX hb1;have HX1:=Qe HX hb1;have z0:=HX1.out.at (k:=0) (v:=I J op) rfl;clear hb1)
    |(go_at_call 152;(with_reducible refine (HI _).out.mono ?_);rintro e w2 ⟨rfl,hb2⟩;have HB2:=Qd HB1 hb2;have HX2:=Qe HX1 hb2;obtain ⟨y0,y1,y2,y3,y4,y5,y6,y7,y8⟩:=ca9 HX2.out;have f1:=HX2.out.free 1;have f2:=HX2.out.free 2;clear hb2)
    |(go_at_call 145;(with_reducible refine (HIA _).out.mono ?_);rintro e w3 ⟨rfl,rfl⟩)
    |(go_at_call 145;(with_reducible refine (HIB _).out.mono ?_);rintro e w3 ⟨rfl,rfl⟩))
   have HX3:=hid ((HX2.out.set (k:=1) (I J 0)).set (k:=2) (I J 0))
   have HB3:=hid ((HB2.out.setCell (p:=⟨w.heap.size,1,none⟩) (Ql _) (I J 0)).setCell (p:=⟨w.heap.size,2,none⟩) (Ql _) (I J 0))
   clear y0 y1 y2 y3 y4 y5 y6 y7 y8 f1 f2
   generalize ((w2.setCell ⟨w.heap.size,1,none⟩ (I J 0)).setCell ⟨w.heap.size,2,none⟩ (I J 0))=W3 at *
   obtain ⟨x0,x1,x2,x3,x4,x5,x6,x7,x8⟩:=ca9 HX3.out
   go_wp2_with (go_at_call 236;(with_reducible refine (HU _).out.mono ?_);rintro e w4 ⟨rfl,hb4⟩)
   go_ret
   exact ⟨by simp,HB3.out.trans (hb4.mono HB3.out.size)⟩
theorem ins_12 (K:Int) (hK:K=12∨K=14) (op a b:Int) (n h:Nat) (l:List Int) (nl:Nat) (hnl:nl=l.length) (pl pb pe:Option Addr) (cl nb cb ne ce:Nat) (ot:Bool) (B:Nat) (w:World) (hB:B≤w.heap.size) (hl:LI B w (V pl nl cl) l) (hn:nl<9223372036854775807)
  (hk:∀W,Calls QP 233 #[I J op] W fun e w'=>e=Qr (G true)∧Below W.heap.size W w') (hi:∀W,Calls QP 152 #[I J op] W fun e w'=>e=Qr (I J K)∧Below W.heap.size W w') :
  Calls QP 214 #[.agg #[I J op,I J a,I J b,I O n,I O h,V pl nl cl,V pb nb cb,V pe ne ce,G ot]] w fun e w'=>e=Qr (G ((decide ((n:Int)≤4294967295))&&unB a b 0 h ot nl nb ne))∧Below w.heap.size w w':=by
 rcases hK with rfl|rfl
 all_goals
  have HK:=fun W=>hid (hk W)
  have HI:=fun W=>hid (hi W)
  have HU:=fun W=>hid (isUnused_says op a b 0 h pl pb pe nl cl nb cb ne ce ot W)
  generalize unB a b 0 h ot nl nb ne=u at *
  try simp only[show ((0:Nat):Int)=0 from rfl]at HU
  have HBX:=hid ((QB w.heap.size w).alloc (Ql _) (Qc #[I J op,I J a,I J b,I O n,I O h,V pl nl cl,V pb nb cb,V pe ne ce,G ot] 39))
  have HX:=hid (CA.new w #[I J op,I J a,I J b,I O n,I O h,V pl nl cl,V pb nb cb,V pe ne ce,G ot] 39)
  obtain ⟨nn,dn⟩:∃x,decide ((n:Int)≤4294967295)=x:=⟨_,rfl⟩
  rw[dn]
  clear hk hi hl hnl hn
  cases nn with
  |false =>
   go_enter Tryz.func214,Tryz.ntmps214
   go_upto_region 50 with (first
    |(go_at_call 233;(with_reducible refine (HK _).out.mono ?_);rintro e w1 ⟨rfl,hb1⟩;have HB1:=Qd HBX hb1;have HX1:=Qe HX hb1;have z0:=HX1.out.at (k:=0) (v:=I J op) rfl;clear hb1)
    |(go_at_call 152;(with_reducible refine (HI _).out.mono ?_);rintro e w2 ⟨rfl,hb2⟩;have HB2:=Qd HB1 hb2;have HX2:=Qe HX1 hb2;obtain ⟨y0,y1,y2,y3,y4,y5,y6,y7,y8⟩:=ca9 HX2.out;have f3:=HX2.out.free 3;clear hb2))
   have HX3:=hid (HX2.out.set (k:=3) (I O 0))
   have HB3:=hid (HB2.out.setCell (p:=⟨w.heap.size,3,none⟩) (Ql _) (I O 0))
   clear y0 y1 y2 y3 y4 y5 y6 y7 y8 f3
   generalize (w2.setCell ⟨w.heap.size,3,none⟩ (I O 0))=W3 at *
   go_wp2
   go_ret
   exact ⟨by simp,HB3.out⟩
  |true =>
   go_enter Tryz.func214,Tryz.ntmps214
   go_upto_region 50 with (first
    |(go_at_call 233;(with_reducible refine (HK _).out.mono ?_);rintro e w1 ⟨rfl,hb1⟩;have HB1:=Qd HBX hb1;have HX1:=Qe HX hb1;have z0:=HX1.out.at (k:=0) (v:=I J op) rfl;clear hb1)
    |(go_at_call 152;(with_reducible refine (HI _).out.mono ?_);rintro e w2 ⟨rfl,hb2⟩;have HB2:=Qd HB1 hb2;have HX2:=Qe HX1 hb2;obtain ⟨y0,y1,y2,y3,y4,y5,y6,y7,y8⟩:=ca9 HX2.out;have f3:=HX2.out.free 3;clear hb2))
   have HX3:=hid (HX2.out.set (k:=3) (I O 0))
   have HB3:=hid (HB2.out.setCell (p:=⟨w.heap.size,3,none⟩) (Ql _) (I O 0))
   clear y0 y1 y2 y3 y4 y5 y6 y7 y8 f3
   generalize (w2.setCell ⟨w.heap.size,3,none⟩ (I O 0))=W3 at *
   obtain ⟨x0,x1,x2,x3,x4,x5,x6,x7,x8⟩:=ca9 HX3.out
   go_wp2_with (go_at_call 236;(with_reducible refine (HU _).out.mono ?_);rintro e w4 ⟨rfl,hb4⟩)
   go_ret
   exact ⟨by simp,HB3.out.trans (hb4.mono HB3.out.size)⟩
theorem ins_13 (K:Int) (hK:K=13∨K=15) (op a b:Int) (n h:Nat) (l:List Int) (nl:Nat) (hnl:nl=l.length) (pl pb pe:Option Addr) (cl nb cb ne ce:Nat) (ot:Bool) (B:Nat) (w:World) (hB:B≤w.heap.size) (hl:LI B w (V pl nl cl) l) (hn:nl<9223372036854775807)
  (hk:∀W,Calls QP 233 #[I J op] W fun e w'=>e=Qr (G true)∧Below W.heap.size W w') (hi:∀W,Calls QP 152 #[I J op] W fun e w'=>e=Qr (I J K)∧Below W.heap.size W w') :
  Calls QP 214 #[.agg #[I J op,I J a,I J b,I O n,I O h,V pl nl cl,V pb nb cb,V pe ne ce,G ot]] w fun e w'=>e=Qr (G (unB a b 0 h ot nl nb ne))∧Below w.heap.size w w':=by
 rcases hK with rfl|rfl
 all_goals
  have HK:=fun W=>hid (hk W)
  have HI:=fun W=>hid (hi W)
  have HU:=fun W=>hid (isUnused_says op a b 0 h pl pb pe nl cl nb cb ne ce ot W)
  generalize unB a b 0 h ot nl nb ne=u at *
  try simp only[show ((0:Nat):Int)=0 from rfl]at HU
  have HBX:=hid ((QB w.heap.size w).alloc (Ql _) (Qc #[I J op,I J a,I J b,I O n,I O h,V pl nl cl,V pb nb cb,V pe ne ce,G ot] 39))
  have HX:=hid (CA.new w #[I J op,I J a,I J b,I O n,I O h,V pl nl cl,V pb nb cb,V pe ne ce,G ot] 39)
  clear hk hi hl hnl hn
  go_enter Tryz.func214,Tryz.ntmps214
  go_upto_region 50 with (first
   |(go_at_call 233;(with_reducible refine (HK _).out.mono ?_);rintro e w1 ⟨rfl,hb1⟩;have HB1:=Qd HBX hb1;have HX1:=Qe HX hb1;have z0:=HX1.out.at (k:=0) (v:=I J op) rfl;clear hb1)
   |(go_at_call 152;(with_reducible refine (HI _).out.mono ?_);rintro e w2 ⟨rfl,hb2⟩;have HB2:=Qd HB1 hb2;have HX2:=Qe HX1 hb2;obtain ⟨y0,y1,y2,y3,y4,y5,y6,y7,y8⟩:=ca9 HX2.out;have f3:=HX2.out.free 3;clear hb2))
  have HX3:=hid (HX2.out.set (k:=3) (I O 0))
  have HB3:=hid (HB2.out.setCell (p:=⟨w.heap.size,3,none⟩) (Ql _) (I O 0))
  clear y0 y1 y2 y3 y4 y5 y6 y7 y8 f3
  generalize (w2.setCell ⟨w.heap.size,3,none⟩ (I O 0))=W3 at *
  obtain ⟨x0,x1,x2,x3,x4,x5,x6,x7,x8⟩:=ca9 HX3.out
  go_wp2_with (go_at_call 236;(with_reducible refine (HU _).out.mono ?_);rintro e w4 ⟨rfl,hb4⟩)
  go_ret
  exact ⟨by simp,HB3.out.trans (hb4.mono HB3.out.size)⟩
theorem ins_23 (op a b:Int) (n h:Nat) (l:List Int) (nl:Nat) (hnl:nl=l.length) (pl pb pe:Option Addr) (cl nb cb ne ce:Nat) (ot:Bool) (B:Nat) (w:World) (hB:B≤w.heap.size) (hl:LI B w (V pl nl cl) l) (hn:nl<9223372036854775807)
  (hk:∀W,Calls QP 233 #[I J op] W fun e w'=>e=Qr (G true)∧Below W.heap.size W w') (hi:∀W,Calls QP 152 #[I J op] W fun e w'=>e=Qr (I J 23)∧Below W.heap.size W w') :
  Calls QP 214 #[.agg #[I J op,I J a,I J b,I O n,I O h,V pl nl cl,V pb nb cb,V pe ne ce,G ot]] w fun e w'=>e=Qr (G (unB a b 0 0 ot nl nb ne))∧Below w.heap.size w w':=by
 have HK:=fun W=>hid (hk W)
 have HI:=fun W=>hid (hi W)
 have HU:=fun W=>hid (isUnused_says op a b 0 0 pl pb pe nl cl nb cb ne ce ot W)
 generalize unB a b 0 0 ot nl nb ne=u at *
 try simp only[show ((0:Nat):Int)=0 from rfl]at HU
 have HBX:=hid ((QB w.heap.size w).alloc (Ql _) (Qc #[I J op,I J a,I J b,I O n,I O h,V pl nl cl,V pb nb cb,V pe ne ce,G ot] 39))
 have HX:=hid (CA.new w #[I J op,I J a,I J b,I O n,I O h,V pl nl cl,V pb nb cb,V pe ne ce,G ot] 39)
 clear hk hi hl hnl hn
 go_enter Tryz.func214,Tryz.ntmps214
 go_upto_region 50 with (first
  |(go_at_call 233;(with_reducible refine (HK _).out.mono ?_);rintro e w1 ⟨rfl,hb1⟩;have HB1:=Qd HBX hb1;have HX1:=Qe HX hb1;have z0:=HX1.out.at (k:=0) (v:=I J op) rfl;clear hb1)
  |(go_at_call 152;(with_reducible refine (HI _).out.mono ?_);rintro e w2 ⟨rfl,hb2⟩;have HB2:=Qd HB1 hb2;have HX2:=Qe HX1 hb2;obtain ⟨y0,y1,y2,y3,y4,y5,y6,y7,y8⟩:=ca9 HX2.out;have f3:=HX2.out.free 3;have f4:=HX2.out.free 4;clear hb2))
 have HX3:=hid ((HX2.out.set (k:=3) (I O 0)).set (k:=4) (I O 0))
 have HB3:=hid ((HB2.out.setCell (p:=⟨w.heap.size,3,none⟩) (Ql _) (I O 0)).setCell (p:=⟨w.heap.size,4,none⟩) (Ql _) (I O 0))
 clear y0 y1 y2 y3 y4 y5 y6 y7 y8 f3 f4
 generalize ((w2.setCell ⟨w.heap.size,3,none⟩ (I O 0)).setCell ⟨w.heap.size,4,none⟩ (I O 0))=W3 at *
 obtain ⟨x0,x1,x2,x3,x4,x5,x6,x7,x8⟩:=ca9 HX3.out
 go_wp2_with (go_at_call 236;(with_reducible refine (HU _).out.mono ?_);rintro e w4 ⟨rfl,hb4⟩)
 go_ret
 exact ⟨by simp,HB3.out.trans (hb4.mono HB3.out.size)⟩
theorem ins_3 (op a b:Int) (n h:Nat) (l:List Int) (nl:Nat) (hnl:nl=l.length) (pl pb pe:Option Addr) (cl nb cb ne ce:Nat) (ot:Bool) (B:Nat) (w:World) (hB:B≤w.heap.size) (hl:LI B w (V pl nl cl) l) (hn:nl<9223372036854775807)
  (hk:∀W,Calls QP 233 #[I J op] W fun e w'=>e=Qr (G true)∧Below W.heap.size W w') (hi:∀W,Calls QP 152 #[I J op] W fun e w'=>e=Qr (I J 3)∧Below W.heap.size W w') :
  Calls QP 214 #[.agg #[I J op,I J a,I J b,I O n,I O h,V pl nl cl,V pb nb cb,V pe ne ce,G ot]] w fun e w'=>e=Qr (G ((idxB a&&l.all idxB)&&unB 0 b n h ot 0 nb ne))∧Below w.heap.size w w':=by
 have HK:=fun W=>hid (hk W)
 have HI:=fun W=>hid (hi W)
 have HU:=fun W=>hid (isUnused_says op 0 b n h none pb pe 0 0 nb cb ne ce ot W)
 generalize unB 0 b n h ot 0 nb ne=u at *
 try simp only[show ((0:Nat):Int)=0 from rfl]at HU
 have HBX:=hid ((QB w.heap.size w).alloc (Ql _) (Qc #[I J op,I J a,I J b,I O n,I O h,V pl nl cl,V pb nb cb,V pe ne ce,G ot] 39))
 have HX:=hid (CA.new w #[I J op,I J a,I J b,I O n,I O h,V pl nl cl,V pb nb cb,V pe ne ce,G ot] 39)
 have HIA:=fun W=>hid (isIndex_says a W)
 generalize idxB a=ia at *
 have HLX:=fun W (hW:Below B w W)=>hid (all_int 145 (fun _ _=>rfl) idxB isIndex_says l (V pl nl cl) B W (hl.below hW) (Qk hB hW.size) (by omega))
 generalize l.all idxB=lx at *
 clear hk hi hl hnl hn
 cases ia with
 |false =>
  go_enter Tryz.func214,Tryz.ntmps214
  go_upto_region 50 with (first
   |(go_at_call 233;(with_reducible refine (HK _).out.mono ?_);rintro e w1 ⟨rfl,hb1⟩;have HB1:=Qd HBX hb1;have HX1:=Qe HX hb1;have z0:=HX1.out.at (k:=0) (v:=I J op) rfl;clear hb1)
   |(go_at_call 152;(with_reducible refine (HI _).out.mono ?_);rintro e w2 ⟨rfl,hb2⟩;have HB2:=Qd HB1 hb2;have HX2:=Qe HX1 hb2;obtain ⟨y0,y1,y2,y3,y4,y5,y6,y7,y8⟩:=ca9 HX2.out;have f1:=HX2.out.free 1;have f5:=HX2.out.free 5;clear hb2)
   |(go_at_call 145;(with_reducible refine (HIA _).out.mono ?_);rintro e w3 ⟨rfl,rfl⟩)
   |(go_at_call 143;(with_reducible refine (HLX _ (HB2.out.mono hB)).out.mono ?_);rintro e w3 ⟨rfl,rfl⟩))
  have HX3:=hid ((HX2.out.set (k:=1) (I J 0)).set (k:=5) (V none 0 0))
  have HB3:=hid ((HB2.out.setCell (p:=⟨w.heap.size,1,none⟩) (Ql _) (I J 0)).setCell (p:=⟨w.heap.size,5,none⟩) (Ql _) (V none 0 0))
  clear y0 y1 y2 y3 y4 y5 y6 y7 y8 f1 f5
  generalize ((w2.setCell ⟨w.heap.size,1,none⟩ (I J 0)).setCell ⟨w.heap.size,5,none⟩ (V none 0 0))=W3 at *
  go_wp2
  go_ret
  exact ⟨by simp,HB3.out⟩
 |true =>
  cases lx with
  |false =>
   go_enter Tryz.func214,Tryz.ntmps214
   go_upto_region 50 with (first
    |(go_at_call 233;(with_reducible refine (HK _).out.mono ?_);rintro e w1 ⟨rfl,hb1⟩;have HB1:=Qd HBX hb1;have HX1:=Qe HX hb1;have z0:=HX1.out.at (k:=0) (v:=I J op) rfl;clear hb1)
    |(go_at_call 152;(with_reducible refine (HI _).out.mono ?_);rintro e w2 ⟨rfl,hb2⟩;have HB2:=Qd HB1 hb2;have HX2:=Qe HX1 hb2;obtain ⟨y0,y1,y2,y3,y4,y5,y6,y7,y8⟩:=ca9 HX2.out;have f1:=HX2.out.free 1;have f5:=HX2.out.free 5;clear hb2)
    |(go_at_call 145;(with_reducible refine (HIA _).out.mono ?_);rintro e w3 ⟨rfl,rfl⟩)
    |(go_at_call 143;(with_reducible refine (HLX _ (HB2.out.mono hB)).out.mono ?_);rintro e w3 ⟨rfl,rfl⟩))
   have HX3:=hid ((HX2.out.set (k:=1) (I J 0)).set (k:=5) (V none 0 0))
   have HB3:=hid ((HB2.out.setCell (p:=⟨w.heap.size,1,none⟩) (Ql _) (I J 0)).setCell (p:=⟨w.heap.size,5,none⟩) (Ql _) (V none 0 0))
   clear y0 y1 y2 y3 y4 y5 y6 y7 y8 f1 f5
   generalize ((w2.setCell ⟨w.heap.size,1,none⟩ (I J 0)).setCell ⟨w.heap.size,5,none⟩ (V none 0 0))=W3 at *
   go_wp2
   go_ret
   exact ⟨by simp,HB3.out⟩
  |true =>
   go_enter Tryz.func214,Tryz.ntmps214
   go_upto_region 50 with (first
    |(go_at_call 233;(with_reducible refine (HK _).out.mono ?_);rintro e w1 ⟨rfl,hb1⟩;have HB1:=Qd HBX hb1;have HX1:=Qe HX hb1;have z0:=HX1.out.at (k:=0) (v:=I J op) rfl;clear hb1)
    |(go_at_call 152;(with_reducible refine (HI _).out.mono ?_);rintro e w2 ⟨rfl,hb2⟩;have HB2:=Qd HB1 hb2;have HX2:=Qe HX1 hb2;obtain ⟨y0,y1,y2,y3,y4,y5,y6,y7,y8⟩:=ca9 HX2.out;have f1:=HX2.out.free 1;have f5:=HX2.out.free 5;clear hb2)
    |(go_at_call 145;(with_reducible refine (HIA _).out.mono ?_);rintro e w3 ⟨rfl,rfl⟩)
    |(go_at_call 143;(with_reducible refine (HLX _ (HB2.out.mono hB)).out.mono ?_);rintro e w3 ⟨rfl,rfl⟩))
   have HX3:=hid ((HX2.out.set (k:=1) (I J 0)).set (k:=5) (V none 0 0))
   have HB3:=hid ((HB2.out.setCell (p:=⟨w.heap.size,1,none⟩) (Ql _) (I J 0)).setCell (p:=⟨w.heap.size,5,none⟩) (Ql _) (V none 0 0))
   clear y0 y1 y2 y3 y4 y5 y6 y7 y8 f1 f5
   generalize ((w2.setCell ⟨w.heap.size,1,none⟩ (I J 0)).setCell ⟨w.heap.size,5,none⟩ (V none 0 0))=W3 at *
   obtain ⟨x0,x1,x2,x3,x4,x5,x6,x7,x8⟩:=ca9 HX3.out
   go_wp2_with (go_at_call 236;(with_reducible refine (HU _).out.mono ?_);rintro e w4 ⟨rfl,hb4⟩)
   go_ret
   exact ⟨by simp,HB3.out.trans (hb4.mono HB3.out.size)⟩
theorem ins_6 (op a b:Int) (n h:Nat) (l:List Int) (nl:Nat) (hnl:nl=l.length) (pl pb pe:Option Addr) (cl nb cb ne ce:Nat) (ot:Bool) (B:Nat) (w:World) (hB:B≤w.heap.size) (hl:LI B w (V pl nl cl) l) (hn:nl<9223372036854775807)
  (hk:∀W,Calls QP 233 #[I J op] W fun e w'=>e=Qr (G true)∧Below W.heap.size W w') (hi:∀W,Calls QP 152 #[I J op] W fun e w'=>e=Qr (I J 6)∧Below W.heap.size W w') :
  Calls QP 214 #[.agg #[I J op,I J a,I J b,I O n,I O h,V pl nl cl,V pb nb cb,V pe ne ce,G ot]] w fun e w'=>e=Qr (G ((l.all valB)&&unB a b n h ot 0 nb ne))∧Below w.heap.size w w':=by
 have HK:=fun W=>hid (hk W)
 have HI:=fun W=>hid (hi W)
 have HU:=fun W=>hid (isUnused_says op a b n h none pb pe 0 0 nb cb ne ce ot W)
 generalize unB a b n h ot 0 nb ne=u at *
 try simp only[show ((0:Nat):Int)=0 from rfl]at HU
 have HBX:=hid ((QB w.heap.size w).alloc (Ql _) (Qc #[I J op,I J a,I J b,I O n,I O h,V pl nl cl,V pb nb cb,V pe ne ce,G ot] 39))
 have HX:=hid (CA.new w #[I J op,I J a,I J b,I O n,I O h,V pl nl cl,V pb nb cb,V pe ne ce,G ot] 39)
 have HLX:=fun W (hW:Below B w W)=>hid (all_int 144 (fun _ _=>rfl) valB isVal_says l (V pl nl cl) B W (hl.below hW) (Qk hB hW.size) (by omega))
 generalize l.all valB=lx at *
 clear hk hi hl hnl hn
 cases lx with
 |false =>
  go_enter Tryz.func214,Tryz.ntmps214
  go_upto_region 50 with (first
   |(go_at_call 233;(with_reducible refine (HK _).out.mono ?_);rintro e w1 ⟨rfl,hb1⟩;have HB1:=Qd HBX hb1;have HX1:=Qe HX hb1;have z0:=HX1.out.at (k:=0) (v:=I J op) rfl;clear hb1)
   |(go_at_call 152;(with_reducible refine (HI _).out.mono ?_);rintro e w2 ⟨rfl,hb2⟩;have HB2:=Qd HB1 hb2;have HX2:=Qe HX1 hb2;obtain ⟨y0,y1,y2,y3,y4,y5,y6,y7,y8⟩:=ca9 HX2.out;have f5:=HX2.out.free 5;clear hb2)
   |(go_at_call 143;(with_reducible refine (HLX _ (HB2.out.mono hB)).out.mono ?_);rintro e w3 ⟨rfl,rfl⟩))
  have HX3:=hid (HX2.out.set (k:=5) (V none 0 0))
  have HB3:=hid (HB2.out.setCell (p:=⟨w.heap.size,5,none⟩) (Ql _) (V none 0 0))
  clear y0 y1 y2 y3 y4 y5 y6 y7 y8 f5
  generalize (w2.setCell ⟨w.heap.size,5,none⟩ (V none 0 0))=W3 at *
  go_wp2
  go_ret
  exact ⟨by simp,HB3.out⟩
 |true =>
  go_enter Tryz.func214,Tryz.ntmps214
  go_upto_region 50 with (first
   |(go_at_call 233;(with_reducible refine (HK _).out.mono ?_);rintro e w1 ⟨rfl,hb1⟩;have HB1:=Qd HBX hb1;have HX1:=Qe HX hb1;have z0:=HX1.out.at (k:=0) (v:=I J op) rfl;clear hb1)
   |(go_at_call 152;(with_reducible refine (HI _).out.mono ?_);rintro e w2 ⟨rfl,hb2⟩;have HB2:=Qd HB1 hb2;have HX2:=Qe HX1 hb2;obtain ⟨y0,y1,y2,y3,y4,y5,y6,y7,y8⟩:=ca9 HX2.out;have f5:=HX2.out.free 5;clear hb2)
   |(go_at_call 143;(with_reducible refine (HLX _ (HB2.out.mono hB)).out.mono ?_);rintro e w3 ⟨rfl,rfl⟩))
  have HX3:=hid (HX2.out.set (k:=5) (V none 0 0))
  have HB3:=hid (HB2.out.setCell (p:=⟨w.heap.size,5,none⟩) (Ql _) (V none 0 0))
  clear y0 y1 y2 y3 y4 y5 y6 y7 y8 f5
  generalize (w2.setCell ⟨w.heap.size,5,none⟩ (V none 0 0))=W3 at *
  obtain ⟨x0,x1,x2,x3,x4,x5,x6,x7,x8⟩:=ca9 HX3.out
  go_wp2_with (go_at_call 236;(with_reducible refine (HU _).out.mono ?_);rintro e w4 ⟨rfl,hb4⟩)
  go_ret
  exact ⟨by simp,HB3.out.trans (hb4.mono HB3.out.size)⟩
theorem ins_24 (op a b:Int) (n h:Nat) (l:List Int) (nl:Nat) (hnl:nl=l.length) (pl pb pe:Option Addr) (cl nb cb ne ce:Nat) (ot:Bool) (B:Nat) (w:World) (hB:B≤w.heap.size) (hl:LI B w (V pl nl cl) l) (hn:nl<9223372036854775807)
  (hk:∀W,Calls QP 233 #[I J op] W fun e w'=>e=Qr (G true)∧Below W.heap.size W w') (hi:∀W,Calls QP 152 #[I J op] W fun e w'=>e=Qr (I J 24)∧Below W.heap.size W w') :
  Calls QP 214 #[.agg #[I J op,I J a,I J b,I O n,I O h,V pl nl cl,V pb nb cb,V pe ne ce,G ot]] w fun e w'=>e=Qr (G ((((nl:Int)==16)&&l.all byteB)&&unB a b n h ot 0 nb ne))∧Below w.heap.size w w':=by
 have HK:=fun W=>hid (hk W)
 have HI:=fun W=>hid (hi W)
 have HU:=fun W=>hid (isUnused_says op a b n h none pb pe 0 0 nb cb ne ce ot W)
 generalize unB a b n h ot 0 nb ne=u at *
 try simp only[show ((0:Nat):Int)=0 from rfl]at HU
 have HBX:=hid ((QB w.heap.size w).alloc (Ql _) (Qc #[I J op,I J a,I J b,I O n,I O h,V pl nl cl,V pb nb cb,V pe ne ce,G ot] 39))
 have HX:=hid (CA.new w #[I J op,I J a,I J b,I O n,I O h,V pl nl cl,V pb nb cb,V pe ne ce,G ot] 39)
 obtain ⟨l16,dl⟩:∃x,((nl:Int)==16)=x:=⟨_,rfl⟩
 rw[dl]
 have HLX:=fun W (hW:Below B w W)=>hid (all_int 235 (fun _ _=>rfl) byteB isByte_says l (V pl nl cl) B W (hl.below hW) (Qk hB hW.size) (by omega))
 generalize l.all byteB=lx at *
 clear hk hi hl hnl hn
 cases l16 with
 |false =>
  go_enter Tryz.func214,Tryz.ntmps214
  go_upto_region 50 with (first
   |(go_at_call 233;(with_reducible refine (HK _).out.mono ?_);rintro e w1 ⟨rfl,hb1⟩;have HB1:=Qd HBX hb1;have HX1:=Qe HX hb1;have z0:=HX1.out.at (k:=0) (v:=I J op) rfl;clear hb1)
   |(go_at_call 152;(with_reducible refine (HI _).out.mono ?_);rintro e w2 ⟨rfl,hb2⟩;have HB2:=Qd HB1 hb2;have HX2:=Qe HX1 hb2;obtain ⟨y0,y1,y2,y3,y4,y5,y6,y7,y8⟩:=ca9 HX2.out;have f5:=HX2.out.free 5;clear hb2)
   |(go_at_call 143;(with_reducible refine (HLX _ (HB2.out.mono hB)).out.mono ?_);rintro e w3 ⟨rfl,rfl⟩))
  have HX3:=hid (HX2.out.set (k:=5) (V none 0 0))
  have HB3:=hid (HB2.out.setCell (p:=⟨w.heap.size,5,none⟩) (Ql _) (V none 0 0))
  clear y0 y1 y2 y3 y4 y5 y6 y7 y8 f5
  generalize (w2.setCell ⟨w.heap.size,5,none⟩ (V none 0 0))=W3 at *
  go_wp2
  go_ret
  exact ⟨by simp,HB3.out⟩
 |true =>
  cases lx with
  |false =>
   go_enter Tryz.func214,Tryz.ntmps214
   go_upto_region 50 with (first
    |(go_at_call 233;(with_reducible refine (HK _).out.mono ?_);rintro e w1 ⟨rfl,hb1⟩;have HB1:=Qd HBX hb1;have HX1:=Qe HX hb1;have z0:=HX1.out.at (k:=0) (v:=I J op) rfl;clear hb1)
    |(go_at_call 152;(with_reducible refine (HI _).out.mono ?_);rintro e w2 ⟨rfl,hb2⟩;have HB2:=Qd HB1 hb2;have HX2:=Qe HX1 hb2;obtain ⟨y0,y1,y2,y3,y4,y5,y6,y7,y8⟩:=ca9 HX2.out;have f5:=HX2.out.free 5;clear hb2)
    |(go_at_call 143;(with_reducible refine (HLX _ (HB2.out.mono hB)).out.mono ?_);rintro e w3 ⟨rfl,rfl⟩))
   have HX3:=hid (HX2.out.set (k:=5) (V none 0 0))
   have HB3:=hid (HB2.out.setCell (p:=⟨w.heap.size,5,none⟩) (Ql _) (V none 0 0))
   clear y0 y1 y2 y3 y4 y5 y6 y7 y8 f5
   generalize (w2.setCell ⟨w.heap.size,5,none⟩ (V none 0 0))=W3 at *
   go_wp2
   go_ret
   exact ⟨by simp,HB3.out⟩
  |true =>
   go_enter Tryz.func214,Tryz.ntmps214
   go_upto_region 50 with (first
    |(go_at_call 233;(with_reducible refine (HK _).out.mono ?_);rintro e w1 ⟨rfl,hb1⟩;have HB1:=Qd HBX hb1;have HX1:=Qe HX hb1;have z0:=HX1.out.at (k:=0) (v:=I J op) rfl;clear hb1)
    |(go_at_call 152;(with_reducible refine (HI _).out.mono ?_);rintro e w2 ⟨rfl,hb2⟩;have HB2:=Qd HB1 hb2;have HX2:=Qe HX1 hb2;obtain ⟨y0,y1,y2,y3,y4,y5,y6,y7,y8⟩:=ca9 HX2.out;have f5:=HX2.out.free 5;clear hb2)
    |(go_at_call 143;(with_reducible refine (HLX _ (HB2.out.mono hB)).out.mono ?_);rintro e w3 ⟨rfl,rfl⟩))
   have HX3:=hid (HX2.out.set (k:=5) (V none 0 0))
   have HB3:=hid (HB2.out.setCell (p:=⟨w.heap.size,5,none⟩) (Ql _) (V none 0 0))
   clear y0 y1 y2 y3 y4 y5 y6 y7 y8 f5
   generalize (w2.setCell ⟨w.heap.size,5,none⟩ (V none 0 0))=W3 at *
   obtain ⟨x0,x1,x2,x3,x4,x5,x6,x7,x8⟩:=ca9 HX3.out
   go_wp2_with (go_at_call 236;(with_reducible refine (HU _).out.mono ?_);rintro e w4 ⟨rfl,hb4⟩)
   go_ret
   exact ⟨by simp,HB3.out.trans (hb4.mono HB3.out.size)⟩
end Go.Proofs.YtjgeedgphcjhoaaGreat
