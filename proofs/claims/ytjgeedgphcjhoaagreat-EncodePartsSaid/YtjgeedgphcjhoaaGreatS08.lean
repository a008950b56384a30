/-
  GAll2, PSm, PElem, RSm2, RImp0, PImp0: merged, what the law does not reach left out (each text says what it holds where it lies in wip). No condition.
-/
import Derived.Test.YtjgeedgphcjhoaaGreatS02
import Derived.Test.YtjgeedgphcjhoaaGreatS05
import Derived.Test.YtjgeedgphcjhoaaGreatS07
import Derived.Deep.DeepCutAuto
import Derived.Deep.RegionHeld3
import Derived.Test.YtjgeedgphcjhoaaGreatS01
set_option linter.unusedSimpArgs false
set_option linter.unusedVariables false
set_option maxRecDepth 100000
set_option maxHeartbeats 64000000
namespace Go.Proofs.YtjgeedgphcjhoaaGreat
open Go.RowKit
open Value renaming int → I,slice → V,bool → G,string → Qs,pointer → Qp
open IntKind renaming i64 → J
open Ending renaming returned → Qr
open Obj renaming cells → Qc
open _root_.Go.Proofs.Tryz renaming prog → QP
open Nat renaming le_refl → Ql,zero_le → Qz
open Below renaming refl → QB
open Act renaming put → Qu
open List renaming range → QR
theorem all_tab (k:Nat) (eg:∀args w,(callFunc k args).run QP w=.ok (.enter k args) w) (P:Nat→Bool) (n g o c:Nat) (t0:Nat→Int) (t1:Nat→Int) (t2:Nat→Int) (u3:Nat→Bool) (w:World) (hg:n≠0→g<w.heap.size) (hn:n<9223372036854775807) (ad:Option Addr) (had:n≠0→ad=some ⟨g,o,none⟩)
  (hx:∀i,i<n→w.cell? ⟨g,o+i*4,none⟩=some (I J (t0 i))∧w.cell? ⟨g,o+i*4+1,none⟩=some (I J (t1 i))∧w.cell? ⟨g,o+i*4+2,none⟩=some (I J (t2 i))∧w.cell? ⟨g,o+i*4+3,none⟩=some (G (u3 i))) (hP:∀i,i<n→∀W,Below w.heap.size w W→Calls QP k #[.agg #[I J (t0 i),I J (t1 i),I J (t2 i),G (u3 i)]] W fun e w'=>e=Qr (G (P i))∧Below W.heap.size W w') :
  Calls QP 36 #[V ad n c,.func (.func k) #[] #[]] w fun e w'=>e=Qr (G ((QR n).all P))∧Below w.heap.size w w':=by
 have HP:=hid hP
 have HXX:=hid hx
 have HG:=hid hg
 have HAD:=hid had
 have hn':(n:Int)<9223372036854775807:=by omega
 obtain ⟨r,hr⟩:∃r,r=(QR n).all P:=⟨_,rfl⟩
 rw[←hr]
 have HR:=hid hr
 clear hP hx hr hn hg had
 go_enter Tryz.func36,Tryz.ntmps36
 go_wp2
 go_loopw [9] (fun vi wr=>∃i:Nat,i≤n∧vi=I J i∧Hid (∀j,j<i→P j=true)∧Hid (Below w.heap.size w wr)) (fun vi _=>n-(intOf vi).toNat)
 case atStart=>exact ⟨0,Qz _,rfl,fun j hj=>absurd hj (Nat.not_lt_zero _),QB _ _⟩
 obtain ⟨i,hi,rfl,HI,HB⟩:=hrel
 by_cases hlt:i<n
 ·obtain ⟨z0_0,z0_1,z0_2,z0_3⟩:=HXX.out i hlt
  have hg:=HG.out (by omega)
  obtain rfl:=HAD.out (by omega)
  have hPi:=fun W h=>hid (HP.out i hlt W h)
  have x0:=(HB.out.cell (p:=⟨g,o+i*4,none⟩) hg).trans z0_0
  have x1:=(HB.out.cell (p:=⟨g,o+i*4+1,none⟩) hg).trans z0_1
  have x2:=(HB.out.cell (p:=⟨g,o+i*4+2,none⟩) hg).trans z0_2
  have x3:=(HB.out.cell (p:=⟨g,o+i*4+3,none⟩) hg).trans z0_3
  clear z0_0 z0_1 z0_2 z0_3 hg
  obtain ⟨b,hb⟩:∃b,b=P i:=⟨_,rfl⟩
  rw[←hb]at hPi
  have HBP:=hid hb
  clear hb
  generalize t0 i=s0 at *
  generalize t1 i=s1 at *
  generalize t2 i=s2 at *
  generalize u3 i=e3 at *
  have HB1:=hid (HB.out.alloc HB.out.size (Qc #[I J s0,I J s1,I J s2,G e3] 72))
  cases b with
  |false =>
   have HE:Hid (r=false):=by
    rw[HR.out]
    exact List.all_eq_false.2 ⟨i,List.mem_range.2 hlt,by rw[←HBP.out];decide⟩
   go_wp2_with (go_at_fn k;(with_reducible refine (hPi _ HB1.out).out.mono ?_);rintro e w2 ⟨rfl,hb2⟩;have HB2:=Qd HB1 hb2;clear hb2)
   go_ret
   exact ⟨by rw[HE.out];rfl,HB2.out⟩
  |true =>
   go_wp2_with (go_at_fn k;(with_reducible refine (hPi _ HB1.out).out.mono ?_);rintro e w2 ⟨rfl,hb2⟩;have HB2:=Qd HB1 hb2;clear hb2)
   go_roundw
   case rel =>
    refine ⟨i+1,hlt,by go_num,fun j hj=>?_,HB2.out⟩
    by_cases hji:j=i
    ·rw[hji];exact HBP.out.symm
    exact HI.out j (by omega)
   case measure=>simp[intOf];omega
 obtain rfl:i=n:=by omega
 have HE:Hid (r=true):=by
  rw[HR.out]
  exact List.all_eq_true.2 fun j hj=>HI.out j (List.mem_range.1 hj)
 go_wp2
 go_ret
 exact ⟨by rw[HE.out];rfl,HB.out⟩
theorem all_lim (k:Nat) (eg:∀args w,(callFunc k args).run QP w=.ok (.enter k args) w) (P:Nat→Bool) (n g o c:Nat) (t0:Nat→Int) (t1:Nat→Int) (u2:Nat→Bool) (w:World) (hg:n≠0→g<w.heap.size) (hn:n<9223372036854775807) (ad:Option Addr) (had:n≠0→ad=some ⟨g,o,none⟩)
  (hx:∀i,i<n→w.cell? ⟨g,o+i*3,none⟩=some (I J (t0 i))∧w.cell? ⟨g,o+i*3+1,none⟩=some (I J (t1 i))∧w.cell? ⟨g,o+i*3+2,none⟩=some (G (u2 i))) (hP:∀i,i<n→∀W,Below w.heap.size w W→Calls QP k #[.agg #[I J (t0 i),I J (t1 i),G (u2 i)]] W fun e w'=>e=Qr (G (P i))∧Below W.heap.size W w') :
  Calls QP 38 #[V ad n c,.func (.func k) #[] #[]] w fun e w'=>e=Qr (G ((QR n).all P))∧Below w.heap.size w w':=by
 have HP:=hid hP
 have HXX:=hid hx
 have HG:=hid hg
 have HAD:=hid had
 have hn':(n:Int)<9223372036854775807:=by omega
 obtain ⟨r,hr⟩:∃r,r=(QR n).all P:=⟨_,rfl⟩
 rw[←hr]
 have HR:=hid hr
 clear hP hx hr hn hg had
 go_enter Tryz.func38,Tryz.ntmps38
 go_wp2
 go_loopw [9] (fun vi wr=>∃i:Nat,i≤n∧vi=I J i∧Hid (∀j,j<i→P j=true)∧Hid (Below w.heap.size w wr)) (fun vi _=>n-(intOf vi).toNat)
 case atStart=>exact ⟨0,Qz _,rfl,fun j hj=>absurd hj (Nat.not_lt_zero _),QB _ _⟩
 obtain ⟨i,hi,rfl,HI,HB⟩:=hrel
 by_cases hlt:i<n
 ·obtain ⟨z0_0,z0_1,z0_2⟩:=HXX.out i hlt
  have hg:=HG.out (by omega)
  obtain rfl:=HAD.out (by omega)
  have hPi:=fun W h=>hid (HP.out i hlt W h)
  have x0:=(HB.out.cell (p:=⟨g,o+i*3,none⟩) hg).trans z0_0
  have x1:=(HB.out.cell (p:=⟨g,o+i*3+1,none⟩) hg).trans z0_1
  have x2:=(HB.out.cell (p:=⟨g,o+i*3+2,none⟩) hg).trans z0_2
  clear z0_0 z0_1 z0_2 hg
  obtain ⟨b,hb⟩:∃b,b=P i:=⟨_,rfl⟩
  rw[←hb]at hPi
  have HBP:=hid hb
  clear hb
  generalize t0 i=s0 at *
  generalize t1 i=s1 at *
  generalize u2 i=e2 at *
  have HB1:=hid (HB.out.alloc HB.out.size (Qc #[I J s0,I J s1,G e2] 70))
  cases b with
  |false =>
   have HE:Hid (r=false):=by
    rw[HR.out]
    exact List.all_eq_false.2 ⟨i,List.mem_range.2 hlt,by rw[←HBP.out];decide⟩
   go_wp2_with (go_at_fn k;(with_reducible refine (hPi _ HB1.out).out.mono ?_);rintro e w2 ⟨rfl,hb2⟩;have HB2:=Qd HB1 hb2;clear hb2)
   go_ret
   exact ⟨by rw[HE.out];rfl,HB2.out⟩
  |true =>
   go_wp2_with (go_at_fn k;(with_reducible refine (hPi _ HB1.out).out.mono ?_);rintro e w2 ⟨rfl,hb2⟩;have HB2:=Qd HB1 hb2;clear hb2)
   go_roundw
   case rel =>
    refine ⟨i+1,hlt,by go_num,fun j hj=>?_,HB2.out⟩
    by_cases hji:j=i
    ·rw[hji];exact HBP.out.symm
    exact HI.out j (by omega)
   case measure=>simp[intOf];omega
 obtain rfl:i=n:=by omega
 have HE:Hid (r=true):=by
  rw[HR.out]
  exact List.all_eq_true.2 fun j hj=>HI.out j (List.mem_range.1 hj)
 go_wp2
 go_ret
 exact ⟨by rw[HE.out];rfl,HB.out⟩
theorem all_elem (k:Nat) (eg:∀args w,(callFunc k args).run QP w=.ok (.enter k args) w) (P:Nat→Bool) (n g o c:Nat) (t0:Nat→Int) (t1:Nat→Int) (t2:Nat→Int) (p3:Nat→Option Addr) (n3 c3:Nat→Nat) (p4:Nat→Option Addr) (n4 c4:Nat→Nat) (w:World) (hg:n≠0→g<w.heap.size) (hn:n<9223372036854775807) (ad:Option Addr) (had:n≠0→ad=some ⟨g,o,none⟩)
  (hx:∀i,i<n→w.cell? ⟨g,o+i*5,none⟩=some (I J (t0 i))∧w.cell? ⟨g,o+i*5+1,none⟩=some (I J (t1 i))∧w.cell? ⟨g,o+i*5+2,none⟩=some (I J (t2 i))∧w.cell? ⟨g,o+i*5+3,none⟩=some (V (p3 i) (n3 i) (c3 i))∧w.cell? ⟨g,o+i*5+4,none⟩=some (V (p4 i) (n4 i) (c4 i))) (hP:∀i,i<n→∀W,Below w.heap.size w W→Calls QP k #[.agg #[I J (t0 i),I J (t1 i),I J (t2 i),V (p3 i) (n3 i) (c3 i),V (p4 i) (n4 i) (c4 i)]] W fun e w'=>e=Qr (G (P i))∧Below W.heap.size W w') :
  Calls QP 45 #[V ad n c,.func (.func k) #[] #[]] w fun e w'=>e=Qr (G ((QR n).all P))∧Below w.heap.size w w':=by
 have HP:=hid hP
 have HXX:=hid hx
 have HG:=hid hg
 have HAD:=hid had
 have hn':(n:Int)<9223372036854775807:=by omega
 obtain ⟨r,hr⟩:∃r,r=(QR n).all P:=⟨_,rfl⟩
 rw[←hr]
 have HR:=hid hr
 clear hP hx hr hn hg had
 go_enter Tryz.func45,Tryz.ntmps45
 go_wp2
 go_loopw [9] (fun vi wr=>∃i:Nat,i≤n∧vi=I J i∧Hid (∀j,j<i→P j=true)∧Hid (Below w.heap.size w wr)) (fun vi _=>n-(intOf vi).toNat)
 case atStart=>exact ⟨0,Qz _,rfl,fun j hj=>absurd hj (Nat.not_lt_zero _),QB _ _⟩
 obtain ⟨i,hi,rfl,HI,HB⟩:=hrel
 by_cases hlt:i<n
 ·obtain ⟨z0_0,z0_1,z0_2,z0_3,z0_4⟩:=HXX.out i hlt
  have hg:=HG.out (by omega)
  obtain rfl:=HAD.out (by omega)
  have hPi:=fun W h=>hid (HP.out i hlt W h)
  have x0:=(HB.out.cell (p:=⟨g,o+i*5,none⟩) hg).trans z0_0
  have x1:=(HB.out.cell (p:=⟨g,o+i*5+1,none⟩) hg).trans z0_1
  have x2:=(HB.out.cell (p:=⟨g,o+i*5+2,none⟩) hg).trans z0_2
  have x3:=(HB.out.cell (p:=⟨g,o+i*5+3,none⟩) hg).trans z0_3
  have x4:=(HB.out.cell (p:=⟨g,o+i*5+4,none⟩) hg).trans z0_4
  clear z0_0 z0_1 z0_2 z0_3 z0_4 hg
  obtain ⟨b,hb⟩:∃b,b=P i:=⟨_,rfl⟩
  rw[←hb]at hPi
  have HBP:=hid hb
  clear hb
  generalize t0 i=s0 at *
  generalize t1 i=s1 at *
  generalize t2 i=s2 at *
  generalize p3 i=q3 at *
  generalize n3 i=m3 at *
  generalize c3 i=d3 at *
  generalize p4 i=q4 at *
  generalize n4 i=m4 at *
  generalize c4 i=d4 at *
  have HB1:=hid (HB.out.alloc HB.out.size (Qc #[I J s0,I J s1,I J s2,V q3 m3 d3,V q4 m4 d4] 62))
  cases b with
  |false =>
   have HE:Hid (r=false):=by
    rw[HR.out]
    exact List.all_eq_false.2 ⟨i,List.mem_range.2 hlt,by rw[←HBP.out];decide⟩
   go_wp2_with (go_at_fn k;(with_reducible refine (hPi _ HB1.out).out.mono ?_);rintro e w2 ⟨rfl,hb2⟩;have HB2:=Qd HB1 hb2;clear hb2)
   go_ret
   exact ⟨by rw[HE.out];rfl,HB2.out⟩
  |true =>
   go_wp2_with (go_at_fn k;(with_reducible refine (hPi _ HB1.out).out.mono ?_);rintro e w2 ⟨rfl,hb2⟩;have HB2:=Qd HB1 hb2;clear hb2)
   go_roundw
   case rel =>
    refine ⟨i+1,hlt,by go_num,fun j hj=>?_,HB2.out⟩
    by_cases hji:j=i
    ·rw[hji];exact HBP.out.symm
    exact HI.out j (by omega)
   case measure=>simp[intOf];omega
 obtain rfl:i=n:=by omega
 have HE:Hid (r=true):=by
  rw[HR.out]
  exact List.all_eq_true.2 fun j hj=>HI.out j (List.mem_range.1 hj)
 go_wp2
 go_ret
 exact ⟨by rw[HE.out];rfl,HB.out⟩
theorem all_data (k:Nat) (eg:∀args w,(callFunc k args).run QP w=.ok (.enter k args) w) (P:Nat→Bool) (n g o c:Nat) (t0:Nat→Int) (t1:Nat→Int) (p2:Nat→Option Addr) (n2 c2:Nat→Nat) (p3:Nat→Option Addr) (n3 c3:Nat→Nat) (w:World) (hg:n≠0→g<w.heap.size) (hn:n<9223372036854775807) (ad:Option Addr) (had:n≠0→ad=some ⟨g,o,none⟩)
  (hx:∀i,i<n→w.cell? ⟨g,o+i*4,none⟩=some (I J (t0 i))∧w.cell? ⟨g,o+i*4+1,none⟩=some (I J (t1 i))∧w.cell? ⟨g,o+i*4+2,none⟩=some (V (p2 i) (n2 i) (c2 i))∧w.cell? ⟨g,o+i*4+3,none⟩=some (V (p3 i) (n3 i) (c3 i))) (hP:∀i,i<n→∀W,Below w.heap.size w W→Calls QP k #[.agg #[I J (t0 i),I J (t1 i),V (p2 i) (n2 i) (c2 i),V (p3 i) (n3 i) (c3 i)]] W fun e w'=>e=Qr (G (P i))∧Below W.heap.size W w') :
  Calls QP 47 #[V ad n c,.func (.func k) #[] #[]] w fun e w'=>e=Qr (G ((QR n).all P))∧Below w.heap.size w w':=by
 have HP:=hid hP
 have HXX:=hid hx
 have HG:=hid hg
 have HAD:=hid had
 have hn':(n:Int)<9223372036854775807:=by omega
 obtain ⟨r,hr⟩:∃r,r=(QR n).all P:=⟨_,rfl⟩
 rw[←hr]
 have HR:=hid hr
 clear hP hx hr hn hg had
 go_enter Tryz.func47,Tryz.ntmps47
 go_wp2
 go_loopw [9] (fun vi wr=>∃i:Nat,i≤n∧vi=I J i∧Hid (∀j,j<i→P j=true)∧Hid (Below w.heap.size w wr)) (fun vi _=>n-(intOf vi).toNat)
 case atStart=>exact ⟨0,Qz _,rfl,fun j hj=>absurd hj (Nat.not_lt_zero _),QB _ _⟩
 obtain ⟨i,hi,rfl,HI,HB⟩:=hrel
 by_cases hlt:i<n
 ·obtain ⟨z0_0,z0_1,z0_2,z0_3⟩:=HXX.out i hlt
  have hg:=HG.out (by omega)
  obtain rfl:=HAD.out (by omega)
  have hPi:=fun W h=>hid (HP.out i hlt W h)
  have x0:=(HB.out.cell (p:=⟨g,o+i*4,none⟩) hg).trans z0_0
  have x1:=(HB.out.cell (p:=⟨g,o+i*4+1,none⟩) hg).trans z0_1
  have x2:=(HB.out.cell (p:=⟨g,o+i*4+2,none⟩) hg).trans z0_2
  have x3:=(HB.out.cell (p:=⟨g,o+i*4+3,none⟩) hg).trans z0_3
  clear z0_0 z0_1 z0_2 z0_3 hg
  obtain ⟨b,hb⟩:∃b,b=P i:=⟨_,rfl⟩
  rw[←hb]at hPi
  have HBP:=hid hb
  clear hb
  generalize t0 i=s0 at *
  generalize t1 i=s1 at *
  generalize p2 i=q2 at *
  generalize n2 i=m2 at *
  generalize c2 i=d2 at *
  generalize p3 i=q3 at *
  generalize n3 i=m3 at *
  generalize c3 i=d3 at *
  have HB1:=hid (HB.out.alloc HB.out.size (Qc #[I J s0,I J s1,V q2 m2 d2,V q3 m3 d3] 64))
  cases b with
  |false =>
   have HE:Hid (r=false):=by
    rw[HR.out]
    exact List.all_eq_false.2 ⟨i,List.mem_range.2 hlt,by rw[←HBP.out];decide⟩
   go_wp2_with (go_at_fn k;(with_reducible refine (hPi _ HB1.out).out.mono ?_);rintro e w2 ⟨rfl,hb2⟩;have HB2:=Qd HB1 hb2;clear hb2)
   go_ret
   exact ⟨by rw[HE.out];rfl,HB2.out⟩
  |true =>
   go_wp2_with (go_at_fn k;(with_reducible refine (hPi _ HB1.out).out.mono ?_);rintro e w2 ⟨rfl,hb2⟩;have HB2:=Qd HB1 hb2;clear hb2)
   go_roundw
   case rel =>
    refine ⟨i+1,hlt,by go_num,fun j hj=>?_,HB2.out⟩
    by_cases hji:j=i
    ·rw[hji];exact HBP.out.symm
    exact HI.out j (by omega)
   case measure=>simp[intOf];omega
 obtain rfl:i=n:=by omega
 have HE:Hid (r=true):=by
  rw[HR.out]
  exact List.all_eq_true.2 fun j hj=>HI.out j (List.mem_range.1 hj)
 go_wp2
 go_ret
 exact ⟨by rw[HE.out];rfl,HB.out⟩
def limB (mn mx:Int) (has:Bool):Bool:=idxB mn&&(if has=true then idxB mx else (mx==0))
theorem isLimits_says (mn mx:Int) (has:Bool) (w:World):Calls QP 39 #[.agg #[I J mn,I J mx,G has]] w fun e w'=>e=Qr (G (limB mn mx has))∧Below w.heap.size w w':=by
 have H1:=fun W=>hid (isIndex_says mn W)
 have H2:=fun W=>hid (isIndex_says mx W)
 have HB:=hid ((QB w.heap.size w).alloc (Ql _) (Qc #[I J mn,I J mx,G has] 70))
 have HX:=hid (CA.new w #[I J mn,I J mx,G has] 70)
 have x0:=HX.out.at (k:=0) (v:=I J mn) rfl
 have x1:=HX.out.at (k:=1) (v:=I J mx) rfl
 have x2:=HX.out.at (k:=2) (v:=G has) rfl
 unfold limB
 generalize idxB mn=a at *
 generalize idxB mx=b at *
 obtain ⟨z,hz⟩:∃z,(mx==0)=z:=⟨_,rfl⟩
 rw[hz]
 cases has with
 |true =>
  rw[if_pos rfl]
  clear hz
  cases a
  all_goals
   go_enter Tryz.func39,Tryz.ntmps39
   go_wp2_with (first
    |(go_at_call 145;(with_reducible refine (H1 _).out.mono ?_);rintro e w1 ⟨rfl,rfl⟩)
    |(go_at_call 145;(with_reducible refine (H2 _).out.mono ?_);rintro e w1 ⟨rfl,rfl⟩))
   go_ret
   exact ⟨by simp,HB.out⟩
 |false =>
  rw[if_neg (by decide)]
  cases a
  all_goals
   go_enter Tryz.func39,Tryz.ntmps39
   go_wp2_with (go_at_call 145;(with_reducible refine (H1 _).out.mono ?_);rintro e w1 ⟨rfl,rfl⟩)
   go_ret
   exact ⟨by simp,HB.out⟩
theorem isTableType_says (r mn mx:Int) (has:Bool) (w:World):Calls QP 37 #[.agg #[I J r,I J mn,I J mx,G has]] w fun e w'=>e=Qr (G (refB r&&limB mn mx has))∧Below w.heap.size w w':=by
 have H1:=fun W=>hid (isRef_says r W)
 have H2:=fun W=>hid (isLimits_says mn mx has W)
 have HB:=hid ((QB w.heap.size w).alloc (Ql _) (Qc #[I J r,I J mn,I J mx,G has] 72))
 have HX:=hid (CA.new w #[I J r,I J mn,I J mx,G has] 72)
 have x0:=HX.out.at (k:=0) (v:=I J r) rfl
 have x1:=HX.out.at (k:=1) (v:=I J mn) rfl
 have x2:=HX.out.at (k:=2) (v:=I J mx) rfl
 have x3:=HX.out.at (k:=3) (v:=G has) rfl
 generalize refB r=a at *
 generalize limB mn mx has=b at *
 cases a with
 |false =>
  go_enter Tryz.func37,Tryz.ntmps37
  go_wp2_with (go_at_call 149;(with_reducible refine (H1 _).out.mono ?_);rintro e w1 ⟨rfl,rfl⟩)
  go_ret
  exact ⟨rfl,HB.out⟩
 |true =>
  go_enter Tryz.func37,Tryz.ntmps37
  go_wp2_with (first
   |(go_at_call 149;(with_reducible refine (H1 _).out.mono ?_);rintro e w1 ⟨rfl,rfl⟩)
   |(go_at_call 39;(with_reducible refine (H2 _).out.mono ?_);rintro e w2 ⟨rfl,hb⟩;have HB2:=Qd HB hb;clear hb))
  go_ret
  exact ⟨by simp,HB2.out⟩
def kindB (k:Int):Bool:=(k==0)||(k==1)||(k==2)||(k==3)
theorem isExport_says (s:ByteArray) (k ix:Int) (v:Bool) (w:World) (hv:∀W,Calls QP 147 #[Qs s] W fun e w'=>e=Qr (G v)∧Below W.heap.size W w') :
  Calls QP 43 #[.agg #[Qs s,I J k,I J ix]] w fun e w'=>e=Qr (G (kindB k&&(idxB ix&&v)))∧Below w.heap.size w w':=by
 have H1:=fun W=>hid (isIndex_says ix W)
 have H2:=fun W=>hid (hv W)
 have HB:=hid ((QB w.heap.size w).alloc (Ql _) (Qc #[Qs s,I J k,I J ix] 76))
 have HX:=hid (CA.new w #[Qs s,I J k,I J ix] 76)
 have x0:=HX.out.at (k:=0) (v:=Qs s) rfl
 have x1:=HX.out.at (k:=1) (v:=I J k) rfl
 have x2:=HX.out.at (k:=2) (v:=I J ix) rfl
 generalize idxB ix=a at *
 clear hv
 by_cases hk:k=0∨k=1∨k=2∨k=3
 ·rcases hk with rfl|rfl|rfl|rfl
  all_goals
   rw[show ∀x,(kindB _&&x)=x from fun x=>by simp[kindB]]
   cases a
   all_goals
    go_enter Tryz.func43,Tryz.ntmps43
    go_wp2_with (first
     |(go_at_call 145;(with_reducible refine (H1 _).out.mono ?_);rintro e w1 ⟨rfl,rfl⟩)
     |(go_at_call 147;(with_reducible refine (H2 _).out.mono ?_);rintro e w2 ⟨rfl,hb⟩;have HB2:=Qd HB hb;clear hb))
    go_ret
    first|exact ⟨by simp,HB2.out⟩|exact ⟨by simp,HB.out⟩
 have k0:(k==0)=false:=by simp;omega
 have k1:(k==1)=false:=by simp;omega
 have k2:(k==2)=false:=by simp;omega
 have k3:(k==3)=false:=by simp;omega
 rw[show kindB k=false by simp[kindB,k0,k1,k2,k3],Bool.false_and]
 clear hk
 go_enter Tryz.func43,Tryz.ntmps43
 go_wp2
 go_ret
 exact ⟨rfl,HB.out⟩
def placeB (mode of:Int) (off:Bool) (no:Nat) (top:Int):Bool:=if mode=0 then idxB of&&off else decide (0<mode)&&decide (mode≤top)&&((of==0)&&((no:Int)==0))
theorem isData_says (mode mem:Int) (po pb:Option Addr) (no co nb cb:Nat) (f:Fo) (hn0:no=f.len) (B:Nat) (w:World) (hn:f.cnt<9223372036854775806) (hB:B≤w.heap.size) (hs:SA B w (V po no co) f) :
  Calls QP 48 #[.agg #[I J mode,I J mem,V po no co,V pb nb cb]] w fun e w'=>e=Qr (G (placeB mode mem (codeB f) no 1))∧Below w.heap.size w w':=by
 have H1:=fun W=>hid (isIndex_says mem W)
 have HC:=fun W (hW:Below w.heap.size w W)=>hid (isCode_says f (V po no co) B W hn (Nat.le_trans hB hW.size) (SA.below hs (hW.mono hB)))
 have HB:=hid ((QB w.heap.size w).alloc (Ql _) (Qc #[I J mode,I J mem,V po no co,V pb nb cb] 64))
 have HX:=hid (CA.new w #[I J mode,I J mem,V po no co,V pb nb cb] 64)
 have x0:=HX.out.at (k:=0) (v:=I J mode) rfl
 have x1:=HX.out.at (k:=1) (v:=I J mem) rfl
 have x2:=HX.out.at (k:=2) (v:=V po no co) rfl
 unfold placeB
 generalize idxB mem=a at *
 generalize codeB f=b at *
 clear hn0 hn hB hs
 by_cases m0:mode=0
 ·subst m0
  rw[if_pos rfl]
  cases a
  all_goals
   go_enter Tryz.func48,Tryz.ntmps48
   go_wp2_with (first
    |(go_at_call 145;(with_reducible refine (H1 _).out.mono ?_);rintro e w1 ⟨rfl,rfl⟩)
    |(go_at_call 148;(with_reducible refine (HC _ HB.out).out.mono ?_);rintro e w2 ⟨rfl,hb⟩;have HB2:=Qd HB hb;clear hb))
   go_ret
   first|exact ⟨by simp,HB2.out⟩|exact ⟨by simp,HB.out⟩
 rw[if_neg m0]
 by_cases m1:mode=1
 ·subst m1
  rw[show (decide ((0:Int)<1)&&decide ((1:Int)≤1))=true from rfl,Bool.true_and]
  obtain ⟨c1,h1⟩:∃c,(mem==0)=c:=⟨_,rfl⟩
  obtain ⟨c2,h2⟩:∃c,((no:Int)==0)=c:=⟨_,rfl⟩
  rw[h1,h2]
  cases c1
  all_goals
   go_enter Tryz.func48,Tryz.ntmps48
   go_wp2
   go_ret
   exact ⟨by simp,HB.out⟩
 have k0:(mode==0)=false:=by simpa using m0
 have k1:(mode==1)=false:=by simpa using m1
 rw[show (decide (0<mode)&&decide (mode≤1))=false by simp;omega,Bool.false_and]
 clear m0 m1
 go_enter Tryz.func48,Tryz.ntmps48
 go_wp2
 go_ret
 exact ⟨rfl,HB.out⟩
theorem all_il (k:Nat) (eg:∀args w,(callFunc k args).run QP w=.ok (.enter k args) w) (P:Nat→Bool) (n g o c:Nat) (p0:Nat→Option Addr) (n0 c0:Nat→Nat) (w:World) (hg:n≠0→g<w.heap.size) (hn:n<9223372036854775807) (ad:Option Addr) (had:n≠0→ad=some ⟨g,o,none⟩)
  (hx:∀i,i<n→w.cell? ⟨g,o+i,none⟩=some (V (p0 i) (n0 i) (c0 i))) (hP:∀i,i<n→∀W,Below w.heap.size w W→Calls QP k #[V (p0 i) (n0 i) (c0 i)] W fun e w'=>e=Qr (G (P i))∧Below W.heap.size W w') :
  Calls QP 150 #[V ad n c,.func (.func k) #[] #[]] w fun e w'=>e=Qr (G ((QR n).all P))∧Below w.heap.size w w':=by
 have HP:=hid hP
 have HXX:=hid hx
 have HG:=hid hg
 have HAD:=hid had
 have hn':(n:Int)<9223372036854775807:=by omega
 obtain ⟨r,hr⟩:∃r,r=(QR n).all P:=⟨_,rfl⟩
 rw[←hr]
 have HR:=hid hr
 clear hP hx hr hn hg had
 go_enter Tryz.func150,Tryz.ntmps150
 go_wp2
 go_loopw [9] (fun vi wr=>∃i:Nat,i≤n∧vi=I J i∧Hid (∀j,j<i→P j=true)∧Hid (Below w.heap.size w wr)) (fun vi _=>n-(intOf vi).toNat)
 case atStart=>exact ⟨0,Qz _,rfl,fun j hj=>absurd hj (Nat.not_lt_zero _),QB _ _⟩
 obtain ⟨i,hi,rfl,HI,HB⟩:=hrel
 by_cases hlt:i<n
 ·have z0_0:=HXX.out i hlt
  have hg:=HG.out (by omega)
  obtain rfl:=HAD.out (by omega)
  have hPi:=fun W h=>hid (HP.out i hlt W h)
  have x0:=(HB.out.cell (p:=⟨g,o+i,none⟩) hg).trans z0_0
  clear z0_0 hg
  obtain ⟨b,hb⟩:∃b,b=P i:=⟨_,rfl⟩
  rw[←hb]at hPi
  have HBP:=hid hb
  clear hb
  generalize p0 i=q0 at *
  generalize n0 i=m0 at *
  generalize c0 i=d0 at *
  have HB1:=HB
  cases b with
  |false =>
   have HE:Hid (r=false):=by
    rw[HR.out]
    exact List.all_eq_false.2 ⟨i,List.mem_range.2 hlt,by rw[←HBP.out];decide⟩
   go_wp2_with (go_at_fn k;(with_reducible refine (hPi _ HB1.out).out.mono ?_);rintro e w2 ⟨rfl,hb2⟩;have HB2:=Qd HB1 hb2;clear hb2)
   go_ret
   exact ⟨by rw[HE.out];rfl,HB2.out⟩
  |true =>
   go_wp2_with (go_at_fn k;(with_reducible refine (hPi _ HB1.out).out.mono ?_);rintro e w2 ⟨rfl,hb2⟩;have HB2:=Qd HB1 hb2;clear hb2)
   go_roundw
   case rel =>
    refine ⟨i+1,hlt,by go_num,fun j hj=>?_,HB2.out⟩
    by_cases hji:j=i
    ·rw[hji];exact HBP.out.symm
    exact HI.out j (by omega)
   case measure=>simp[intOf];omega
 obtain rfl:i=n:=by omega
 have HE:Hid (r=true):=by
  rw[HR.out]
  exact List.all_eq_true.2 fun j hj=>HI.out j (List.mem_range.1 hj)
 go_wp2
 go_ret
 exact ⟨by rw[HE.out];rfl,HB.out⟩
theorem isElem_says (r mode tab:Int) (po pi:Option Addr) (no co ni ci:Nat) (off ini:Bool) (w:World)
  (ho:∀W,Below w.heap.size w W→Calls QP 148 #[V po no co] W fun e w'=>e=Qr (G off)∧Below W.heap.size W w')
  (hi:∀W,Below w.heap.size w W→Calls QP 150 #[V pi ni ci,.func (.func 148) #[] #[]] W fun e w'=>e=Qr (G ini)∧Below W.heap.size W w') :
  Calls QP 46 #[.agg #[I J r,I J mode,I J tab,V po no co,V pi ni ci]] w fun e w'=>e=Qr (G (refB r&&ini&&placeB mode tab off no 2))∧Below w.heap.size w w':=by
 have H1:=fun W=>hid (isIndex_says tab W)
 have H2:=fun W=>hid (isRef_says r W)
 have HO:=fun W h=>hid (ho W h)
 have HI:=fun W h=>hid (hi W h)
 have HB:=hid ((QB w.heap.size w).alloc (Ql _) (Qc #[I J r,I J mode,I J tab,V po no co,V pi ni ci] 62))
 have HX:=hid (CA.new w #[I J r,I J mode,I J tab,V po no co,V pi ni ci] 62)
 have x0:=HX.out.at (k:=0) (v:=I J r) rfl
 have x4:=HX.out.at (k:=4) (v:=V pi ni ci) rfl
 generalize refB r=q at *
 clear ho hi
 rcases (show q=false∨(q=true∧ini=false)∨(q=true∧ini=true) by cases q<;>cases ini<;>simp) with rfl|⟨rfl,rfl⟩|⟨rfl,rfl⟩
 ·generalize placeB mode tab off no 2=Z at *
  go_enter Tryz.func46,Tryz.ntmps46
  go_wp2_with (go_at_call 149;(with_reducible refine (H2 _).out.mono ?_);rintro e w1 ⟨rfl,rfl⟩)
  go_ret
  exact ⟨by simp,HB.out⟩
 ·generalize placeB mode tab off no 2=Z at *
  go_enter Tryz.func46,Tryz.ntmps46
  go_wp2_with (first
   |(go_at_call 149;(with_reducible refine (H2 _).out.mono ?_);rintro e w1 ⟨rfl,rfl⟩)
   |(go_at_call 150;(with_reducible refine (HI _ HB.out).out.mono ?_);rintro e w2 ⟨rfl,hb⟩;have HB2:=Qd HB hb;clear hb))
  go_ret
  exact ⟨by simp,HB2.out⟩
 unfold placeB
 generalize idxB tab=a at *
 by_cases m0:mode=0
 ·subst m0
  rw[if_pos rfl]
  cases a
  all_goals
   go_enter Tryz.func46,Tryz.ntmps46
   go_wp2_with (first
    |(go_at_call 149;(with_reducible refine (H2 _).out.mono ?_);rintro e w1 ⟨rfl,rfl⟩)
    |(go_at_call 150;(with_reducible refine (HI _ HB.out).out.mono ?_);rintro e w2 ⟨rfl,hb⟩;have HB2:=Qd HB hb;have HX2:=Qe HX hb;have y1:=HX2.out.at (k:=1) (v:=I J 0) rfl;have y2:=HX2.out.at (k:=2) (v:=I J tab) rfl;have y3:=HX2.out.at (k:=3) (v:=V po no co) rfl;clear hb)
    |(go_at_call 145;(with_reducible refine (H1 _).out.mono ?_);rintro e w1 ⟨rfl,rfl⟩)
    |(go_at_call 148;(with_reducible refine (HO _ HB2.out).out.mono ?_);rintro e w3 ⟨rfl,hb⟩;have HB3:=Qd HB2 hb;clear hb))
   go_ret
   first|exact ⟨by simp,HB3.out⟩|exact ⟨by simp,HB2.out⟩
 rw[if_neg m0]
 by_cases m1:mode=1∨mode=2
 ·obtain ⟨c1,h1⟩:∃c,(tab==0)=c:=⟨_,rfl⟩
  obtain ⟨c2,h2⟩:∃c,((no:Int)==0)=c:=⟨_,rfl⟩
  rw[h1,h2]
  rcases m1 with rfl|rfl
  all_goals
   rw[show ∀x,((decide ((0:Int)<_)&&decide (_≤(2:Int)))&&x)=x from fun x=>by simp]
   clear m0
   cases c1
   all_goals
    go_enter Tryz.func46,Tryz.ntmps46
    go_wp2_with (first
     |(go_at_call 149;(with_reducible refine (H2 _).out.mono ?_);rintro e w1 ⟨rfl,rfl⟩)
     |(go_at_call 150;(with_reducible refine (HI _ HB.out).out.mono ?_);rintro e w2 ⟨rfl,hb⟩;have HB2:=Qd HB hb;have HX2:=Qe HX hb;have y1:=HX2.out.at (k:=1) rfl;have y2:=HX2.out.at (k:=2) (v:=I J tab) rfl;have y3:=HX2.out.at (k:=3) (v:=V po no co) rfl;clear hb))
    go_ret
    exact ⟨by simp,HB2.out⟩
 have k0:(mode==0)=false:=by simpa using m0
 have k1:(mode==1)=false:=by simp;omega
 have k2:(mode==2)=false:=by simp;omega
 rw[show (decide (0<mode)&&decide (mode≤2))=false by simp;omega,Bool.false_and]
 clear m0 m1
 go_enter Tryz.func46,Tryz.ntmps46
 go_wp2_with (first
  |(go_at_call 149;(with_reducible refine (H2 _).out.mono ?_);rintro e w1 ⟨rfl,rfl⟩)
  |(go_at_call 150;(with_reducible refine (HI _ HB.out).out.mono ?_);rintro e w2 ⟨rfl,hb⟩;have HB2:=Qd HB hb;have HX2:=Qe HX hb;have y1:=HX2.out.at (k:=1) (v:=I J mode) rfl;clear hb))
 go_ret
 exact ⟨by simp,HB2.out⟩
def limR (mn mx:Int) (has:Bool):Bool:=idxR mn&&idxR mx&&(has||(mx==0))
theorem lim_eq (mn mx:Int) (has:Bool) (h1:-9223372036854775808≤mn) (h2:mn<9223372036854775808) (h3:-9223372036854775808≤mx) (h4:mx<9223372036854775808):limB mn mx has=limR mn mx has:=by
 unfold limB limR
 rw[idx_eq mn h1 h2,idx_eq mx h3 h4]
 cases has
 ·by_cases h:mx=0
  ·subst h
   simp[idxR]
  have:(mx==0)=false:=by simpa using h
  simp[this]
 simp
theorem Rlimits_says (mn mx:Int) (has:Bool) (w:World):Calls QP 55 #[.agg #[I J mn,I J mx,G has]] w fun e w'=>e=Qr (G (limR mn mx has))∧Below w.heap.size w w':=by
 have H1:=fun W=>hid (RIndex_says mn W)
 have H2:=fun W=>hid (RIndex_says mx W)
 have HB:=hid ((QB w.heap.size w).alloc (Ql _) (Qc #[I J mn,I J mx,G has] 70))
 have HX:=hid (CA.new w #[I J mn,I J mx,G has] 70)
 have x0:=HX.out.at (k:=0) (v:=I J mn) rfl
 have x1:=HX.out.at (k:=1) (v:=I J mx) rfl
 have x2:=HX.out.at (k:=2) (v:=G has) rfl
 unfold limR
 generalize idxR mn=a at *
 generalize idxR mx=b at *
 obtain ⟨z,hz⟩:∃z,(mx==0)=z:=⟨_,rfl⟩
 rw[hz]
 rcases (show a=false∨(a=true∧b=false)∨(a=true∧b=true∧has=true)∨(a=true∧b=true∧has=false) by cases a<;>cases b<;>cases has<;>simp) with rfl|⟨rfl,rfl⟩|⟨rfl,rfl,rfl⟩|⟨rfl,rfl,rfl⟩
 all_goals
  go_enter Tryz.func55,Tryz.ntmps55
  go_wp2_with (first
   |(go_at_call 52;(with_reducible refine (H1 _).out.mono ?_);rintro e w1 ⟨rfl,rfl⟩)
   |(go_at_call 52;(with_reducible refine (H2 _).out.mono ?_);rintro e w1 ⟨rfl,rfl⟩))
  go_ret
  exact ⟨by simp,HB.out⟩
theorem Rtable_says (r mn mx:Int) (has:Bool) (w:World):Calls QP 54 #[.agg #[I J r,I J mn,I J mx,G has]] w fun e w'=>e=Qr (G (refB r&&limR mn mx has))∧Below w.heap.size w w':=by
 have H1:=fun W=>hid (RRef_says r W)
 have H2:=fun W=>hid (Rlimits_says mn mx has W)
 have HB:=hid ((QB w.heap.size w).alloc (Ql _) (Qc #[I J r,I J mn,I J mx,G has] 72))
 have HX:=hid (CA.new w #[I J r,I J mn,I J mx,G has] 72)
 have x0:=HX.out.at (k:=0) (v:=I J r) rfl
 have x1:=HX.out.at (k:=1) (v:=I J mn) rfl
 have x2:=HX.out.at (k:=2) (v:=I J mx) rfl
 have x3:=HX.out.at (k:=3) (v:=G has) rfl
 generalize refB r=a at *
 generalize limR mn mx has=b at *
 cases a
 all_goals
  go_enter Tryz.func54,Tryz.ntmps54
  go_wp2_with (first
   |(go_at_call 154;(with_reducible refine (H1 _).out.mono ?_);rintro e w1 ⟨rfl,rfl⟩)
   |(go_at_call 55;(with_reducible refine (H2 _).out.mono ?_);rintro e w2 ⟨rfl,hb⟩;have HB2:=Qd HB hb;clear hb))
  go_ret
  exact ⟨by simp,HB2.out⟩
theorem Rnames_says (s1 s2:ByteArray) (v1 v2:Bool) (w:World) (h1:∀W,Calls QP 155 #[Qs s1] W fun e w'=>e=Qr (G v1)∧Below W.heap.size W w') (h2:∀W,Calls QP 155 #[Qs s2] W fun e w'=>e=Qr (G v2)∧Below W.heap.size W w') :
  Calls QP 57 #[Qs s1,Qs s2] w fun e w'=>e=Qr (G (v1&&v2))∧Below w.heap.size w w':=by
 have H1:=fun W=>hid (h1 W)
 have H2:=fun W=>hid (h2 W)
 clear h1 h2
 cases v1
 all_goals
  go_enter Tryz.func57,Tryz.ntmps57
  go_upto_region 2 with (go_at_call 155;(with_reducible refine (H1 _).out.mono ?_);rintro e w1 ⟨rfl,hb⟩;have HB1:=hid hb;clear hb)
  go_wp2_with (go_at_call 155;(with_reducible refine (H2 _).out.mono ?_);rintro e w2 ⟨rfl,hb⟩;have HB2:=Qd HB1 hb;clear hb)
  go_ret
  exact ⟨by simp,HB2.out⟩
def placeR (mode of:Int) (off:Bool) (no:Nat):Bool:=if mode=0 then idxR of&&off else ((of==0)&&((no:Int)==0))
theorem Rplace_says (mode of:Int) (p:Option Addr) (no c:Nat) (off:Bool) (w:World) (he:∀W,Below w.heap.size w W→Calls QP 26 #[V p no c] W fun e w'=>e=Qr (G off)∧Below W.heap.size W w') :
  Calls QP 156 #[I J mode,I J of,V p no c] w fun e w'=>e=Qr (G (placeR mode of off no))∧Below w.heap.size w w':=by
 have H1:=fun W=>hid (RIndex_says of W)
 have HE:=fun W h=>hid (he W h)
 have HR:=hid (QB w.heap.size w)
 unfold placeR
 clear he
 by_cases m0:mode=0
 ·subst m0
  rw[if_pos rfl]
  generalize idxR of=a at *
  cases a
  all_goals
   go_enter Tryz.func156,Tryz.ntmps156
   go_wp2_with (first
    |(go_at_call 52;(with_reducible refine (H1 _).out.mono ?_);rintro e w1 ⟨rfl,rfl⟩)
    |(go_at_call 26;(with_reducible refine (HE _ HR.out).out.mono ?_);rintro e w2 ⟨rfl,hb⟩;have HB2:=hid hb;clear hb))
   go_ret
   exact ⟨by simp,HB2.out⟩
 rw[if_neg m0]
 have k0:(mode==0)=false:=by simpa using m0
 have k1:(mode !=0)=true:=by simpa using m0
 obtain ⟨c1,h1⟩:∃c,(of==0)=c:=⟨_,rfl⟩
 obtain ⟨c2,h2⟩:∃c,((no:Int)==0)=c:=⟨_,rfl⟩
 rw[h1,h2]
 clear m0
 cases c1
 all_goals
  go_enter Tryz.func156,Tryz.ntmps156
  go_wp2
  go_ret
  exact ⟨by simp,HR.out⟩
def zTB (r mn mx:Int) (h:Bool):Bool:=(r==0)&&(mn==0)&&(mx==0)&&!h
def zLB (mn mx:Int) (h:Bool):Bool:=(mn==0)&&(mx==0)&&!h
def zGB (t:Int) (m:Bool):Bool:=(t==0)&&!m
theorem imported_0 (s1 s2:ByteArray) (ty tr tmn tmx:Int) (th:Bool) (mmn mmx:Int) (mh:Bool) (gt:Int) (gm:Bool) (nb:Bool) (w:World)
  (hn:∀W,Calls QP 57 #[Qs s1,Qs s2] W fun e w'=>e=Qr (G nb)∧Below W.heap.size W w') :
  Calls QP 51 #[.agg #[Qs s1,Qs s2,I J 0,I J ty,I J tr,I J tmn,I J tmx,G th,I J mmn,I J mmx,G mh,I J gt,G gm]] w fun e w'=>e=Qr (G (nb&&(idxR ty&&zTB tr tmn tmx th&&zLB mmn mmx mh&&zGB gt gm)))∧Below w.heap.size w w':=by
 have HN:=fun W=>hid (hn W)
 have HI:=fun W=>hid (RIndex_says ty W)
 generalize idxR ty=a at *
 have HB:=hid ((QB w.heap.size w).alloc (Ql _) (Qc #[Qs s1,Qs s2,I J 0,I J ty,I J tr,I J tmn,I J tmx,G th,I J mmn,I J mmx,G mh,I J gt,G gm] 74))
 have HX:=hid (CA.new w #[Qs s1,Qs s2,I J 0,I J ty,I J tr,I J tmn,I J tmx,G th,I J mmn,I J mmx,G mh,I J gt,G gm] 74)
 have x0:=HX.out.at (k:=0) (v:=Qs s1) rfl
 have x1:=HX.out.at (k:=1) (v:=Qs s2) rfl
 clear hn
 go_enter Tryz.func51,Tryz.ntmps51
 go_upto_region 5 with (go_at_call 57;(with_reducible refine (HN _).out.mono ?_);rintro e w1 ⟨rfl,hb⟩;have HB1:=Qd HB hb;have HX1:=Qe HX hb;clear hb)
 clear x0 x1
 have HX2:=hid (((HX1.out.alloc (Qc #[I J 0,I J 0,I J 0,G false] 72)).alloc (Qc #[I J 0,I J 0,G false] 70)).alloc (Qc #[I J 0,G false] 44))
 have HB2:=hid (((HB1.out.alloc HB1.out.size (Qc #[I J 0,I J 0,I J 0,G false] 72)).alloc (by rw[size_al];have:=HB1.out.size;omega) (Qc #[I J 0,I J 0,G false] 70)).alloc (by rw[size_al,size_al];have:=HB1.out.size;omega) (Qc #[I J 0,G false] 44))
 have HT:=hid (((CA.new w1 #[I J 0,I J 0,I J 0,G false] 72).alloc (Qc #[I J 0,I J 0,G false] 70)).alloc (Qc #[I J 0,G false] 44))
 have hl:=CA.new (w1.alloc (Qc #[I J 0,I J 0,I J 0,G false] 72)) #[I J 0,I J 0,G false] 70
 rw[size_al]at hl
 have HL:=hid (hl.alloc (Qc #[I J 0,G false] 44))
 have hg:=CA.new ((w1.alloc (Qc #[I J 0,I J 0,I J 0,G false] 72)).alloc (Qc #[I J 0,I J 0,G false] 70)) #[I J 0,G false] 44
 rw[size_al,size_al]at hg
 have HG:=hid hg
 clear hl hg HX1 HB1 HX HB
 generalize ((w1.alloc (Qc #[I J 0,I J 0,I J 0,G false] 72)).alloc (Qc #[I J 0,I J 0,G false] 70)).alloc (Qc #[I J 0,G false] 44)=w2 at *
 generalize w1.heap.size=k at *
 obtain ⟨y0,y1,y2,y3,y4,y5,y6,y7,y8,y9,y10,y11,y12⟩:=ca13 HX2.out
 have t0:=HT.out.at (k:=0) (v:=I J 0) rfl
 have t1:=HT.out.at (k:=1) (v:=I J 0) rfl
 have t2:=HT.out.at (k:=2) (v:=I J 0) rfl
 have t3:=HT.out.at (k:=3) (v:=G false) rfl
 have l0:=HL.out.at (k:=0) (v:=I J 0) rfl
 have l1:=HL.out.at (k:=1) (v:=I J 0) rfl
 have l2:=HL.out.at (k:=2) (v:=G false) rfl
 have g0:=HG.out.at (k:=0) (v:=I J 0) rfl
 have g1:=HG.out.at (k:=1) (v:=G false) rfl
 go_wp2_with (go_at_call 52;(with_reducible refine (HI _).out.mono ?_);rintro e w3 ⟨rfl,rfl⟩)
 all_goals
  go_ret
  first
   |exact ⟨by simp_all[zTB,zLB,zGB],HB3.out⟩
   |exact ⟨by simp_all[zTB,zLB,zGB],HB2.out⟩
theorem CA.far {g c o:Nat} {cs:Array Value} {T:TypeId} {W:World} (h:CA g cs T W) (hne:c≠g) (v:Value):CA g cs T (W.setCell ⟨c,o,none⟩ v):=by
 unfold CA at h ⊢
 rw[World.setCell,Array.getElem?_modify,if_neg hne,h]
theorem isImport_0 (s1 s2:ByteArray) (ty tr tmn tmx:Int) (th:Bool) (mmn mmx:Int) (mh:Bool) (gt:Int) (gm:Bool) (v1 v2:Bool) (w:World)
  (h1:∀W,Calls QP 147 #[Qs s1] W fun e w'=>e=Qr (G v1)∧Below W.heap.size W w') (h2:∀W,Calls QP 147 #[Qs s2] W fun e w'=>e=Qr (G v2)∧Below W.heap.size W w') :
  Calls QP 33 #[.agg #[Qs s1,Qs s2,I J 0,I J ty,I J tr,I J tmn,I J tmx,G th,I J mmn,I J mmx,G mh,I J gt,G gm]] w fun e w'=>e=Qr (G (idxB ty&&(zTB tr tmn tmx th&&zLB mmn mmx mh&&zGB gt gm)&&v1&&v2))∧Below w.heap.size w w':=by
 have HV1:=fun W=>hid (h1 W)
 have HV2:=fun W=>hid (h2 W)
 have HI:=fun W=>hid (isIndex_says ty W)
 generalize idxB ty=a at *
 have hb0:=(QB w.heap.size w).alloc (Ql _) (Qc #[Qs s1,Qs s2,I J 0,I J ty,I J tr,I J tmn,I J tmx,G th,I J mmn,I J mmx,G mh,I J gt,G gm] 74)
 have hx0:=CA.new w #[Qs s1,Qs s2,I J 0,I J ty,I J tr,I J tmn,I J tmx,G th,I J mmn,I J mmx,G mh,I J gt,G gm] 74
 obtain ⟨x0,x1,x2,x3,x4,x5,x6,x7,x8,x9,x10,x11,x12⟩:=ca13 hx0
 have HB:=hid (hb0.alloc (by rw[size_al];omega) (Qc #[Qs s1,Qs s2,I J 0,I J 0,I J 0,I J 0,I J 0,G false,I J 0,I J 0,G false,I J 0,G false] 74))
 have HX:=hid (hx0.alloc (Qc #[Qs s1,Qs s2,I J 0,I J 0,I J 0,I J 0,I J 0,G false,I J 0,I J 0,G false,I J 0,G false] 74))
 have ho:=CA.new (w.alloc (Qc #[Qs s1,Qs s2,I J 0,I J ty,I J tr,I J tmn,I J tmx,G th,I J mmn,I J mmx,G mh,I J gt,G gm] 74)) #[Qs s1,Qs s2,I J 0,I J 0,I J 0,I J 0,I J 0,G false,I J 0,I J 0,G false,I J 0,G false] 74
 rw[size_al]at ho
 have HO0:=hid ho
 clear h1 h2 ho hb0 hx0
 go_enter Tryz.func33,Tryz.ntmps33
 go_upto_region 5 with fail
 clear x0 x1 x2 x3 x4 x5 x6 x7 x8 x9 x10 x11 x12
 have hS:Below w.heap.size w (((w.alloc (Qc #[Qs s1,Qs s2,I J 0,I J ty,I J tr,I J tmn,I J tmx,G th,I J mmn,I J mmx,G mh,I J gt,G gm] 74)).alloc (Qc #[Qs s1,Qs s2,I J 0,I J 0,I J 0,I J 0,I J 0,G false,I J 0,I J 0,G false,I J 0,G false] 74)).drew)∧CA w.heap.size #[Qs s1,Qs s2,I J 0,I J ty,I J tr,I J tmn,I J tmx,G th,I J mmn,I J mmx,G mh,I J gt,G gm] 74 (((w.alloc (Qc #[Qs s1,Qs s2,I J 0,I J ty,I J tr,I J tmn,I J tmx,G th,I J mmn,I J mmx,G mh,I J gt,G gm] 74)).alloc (Qc #[Qs s1,Qs s2,I J 0,I J 0,I J 0,I J 0,I J 0,G false,I J 0,I J 0,G false,I J 0,G false] 74)).drew):=⟨HB.out.drew,HX.out⟩
 have HO:Hid (CA (w.heap.size+1) #[Qs s1,Qs s2,I J 0,I J 0,I J 0,I J 0,I J 0,G false,I J 0,I J 0,G false,I J 0,G false] 74 (((w.alloc (Qc #[Qs s1,Qs s2,I J 0,I J ty,I J tr,I J tmn,I J tmx,G th,I J mmn,I J mmx,G mh,I J gt,G gm] 74)).alloc (Qc #[Qs s1,Qs s2,I J 0,I J 0,I J 0,I J 0,I J 0,G false,I J 0,I J 0,G false,I J 0,G false] 74)).drew)):=HO0
 clear HO0 HB HX
 refine wp_region_held_drew (S:=fun W=>Below w.heap.size w W∧CA w.heap.size #[Qs s1,Qs s2,I J 0,I J ty,I J tr,I J tmn,I J tmx,G th,I J mmn,I J mmx,G mh,I J gt,G gm] 74 W) (by kernel_rfl) hS (fun _=>?_)
 generalize ((w.alloc (Qc #[Qs s1,Qs s2,I J 0,I J ty,I J tr,I J tmn,I J tmx,G th,I J mmn,I J mmx,G mh,I J gt,G gm] 74)).alloc (Qc #[Qs s1,Qs s2,I J 0,I J 0,I J 0,I J 0,I J 0,G false,I J 0,I J 0,G false,I J 0,G false] 74)).drew=W at *
 refine zt 0 (Qp (some ⟨w.heap.size,3,none⟩)) rfl ?_ ?_
 ·(intro W hSw;obtain ⟨x0,x1,x2,x3,x4,x5,x6,x7,x8,x9,x10,x11,x12⟩:=ca13 hSw.2;go_simp;try (with_reducible rfl))
 try simp only[Qu,sl2,sl0,sl1]
 refine zt 1 (I J ty) rfl ?_ ?_
 ·(intro W hSw;obtain ⟨x0,x1,x2,x3,x4,x5,x6,x7,x8,x9,x10,x11,x12⟩:=ca13 hSw.2;go_simp;try (with_reducible rfl))
 try simp only[Qu,sl2,sl0,sl1]
 refine zt 2 (Qp (some ⟨w.heap.size,3,none⟩)) rfl ?_ ?_
 ·(intro W hSw;obtain ⟨x0,x1,x2,x3,x4,x5,x6,x7,x8,x9,x10,x11,x12⟩:=ca13 hSw.2;go_simp;try (with_reducible rfl))
 try simp only[Qu,sl2,sl0,sl1]
 refine zt 3 (I J ty) rfl ?_ ?_
 ·(intro W hSw;obtain ⟨x0,x1,x2,x3,x4,x5,x6,x7,x8,x9,x10,x11,x12⟩:=ca13 hSw.2;go_simp;try (with_reducible rfl))
 try simp only[Qu,sl2,sl0,sl1]
 refine zt 5 (Qp (some ⟨w.heap.size+1,3,none⟩)) rfl ?_ ?_
 ·(intro W hSw;obtain ⟨x0,x1,x2,x3,x4,x5,x6,x7,x8,x9,x10,x11,x12⟩:=ca13 hSw.2;go_simp;try (with_reducible rfl))
 try simp only[Qu,sl2,sl0,sl1]
 refine zr 4 rfl (fun K hK=>?_)
 go_simp
 go_at_call 145
 (with_reducible refine (HI W).out.mono ?_)
 rintro e _ ⟨rfl,rfl⟩
 refine hK.out _ _ hS (fun _=>?_)
 clear hK K
 try simp only[Qu,sl2,sl0,sl1]
 refine zr 6 rfl (fun K hK=>?_)
 have z0:=HO.out.at (k:=3) (v:=I J 0) rfl
 have q0:=HO.out.free 3
 go_simp
 have ho2:CA (w.heap.size+1) #[Qs s1,Qs s2,I J 0,I J ty,I J 0,I J 0,I J 0,G false,I J 0,I J 0,G false,I J 0,G false] 74 (W.setCell ⟨w.heap.size+1,3,none⟩ (I J ty)):=(HO.out.set (k:=3) (I J ty))
 replace hS:=And.intro (hS.1.setCell (p:=⟨w.heap.size+1,3,none⟩) (Nat.le_succ _) (I J ty)) (hS.2.far (o:=3) (Nat.ne_of_gt (Nat.lt_succ_self _)) (I J ty))
 have HO2:=hid ho2
 clear ho2 HO z0 q0
 generalize (W.setCell ⟨w.heap.size+1,3,none⟩ (I J ty))=W9 at *
 refine hK.out _ _ hS (fun _=>?_)
 clear hK K
 try simp only[Qu,sl2,sl0,sl1]
 refine zt 7 (G a) rfl ?_ ?_
 ·(intro W hSw;obtain ⟨x0,x1,x2,x3,x4,x5,x6,x7,x8,x9,x10,x11,x12⟩:=ca13 hSw.2;go_simp;try (with_reducible rfl))
 try simp only[Qu,sl2,sl0,sl1]
 refine wpAnyH_done (by kernel_rfl) ?_ _
 have HF:=hid hS.1
 have HFX:=hid hS.2
 obtain ⟨y0,y1,y2,y3,y4,y5,y6,y7,y8,y9,y10,y11,y12⟩:=ca13 hS.2
 obtain ⟨o0,o1,o2,o3,o4,o5,o6,o7,o8,o9,o10,o11,o12⟩:=ca13 HO2.out
 clear hS
 go_wp2_with (first
  |(go_at_call 147;(with_reducible refine (HV1 _).out.mono ?_);rintro e w8 ⟨rfl,hb⟩;have HG:=Qd HF hb;have HGX:=Qe HFX hb;have y1:=HGX.out.at (k:=1) (v:=Qs s2) rfl;clear hb)
  |(go_at_call 147;(with_reducible refine (HV2 _).out.mono ?_);rintro e w9 ⟨rfl,hb⟩;have HH:=Qd HG hb;clear hb))
 all_goals
  go_ret
  first
   |exact ⟨by simp_all[zTB,zLB,zGB],HH.out⟩
   |exact ⟨by simp_all[zTB,zLB,zGB],HG.out⟩
   |exact ⟨by simp_all[zTB,zLB,zGB],HF.out⟩
theorem isImport_3 (s1 s2:ByteArray) (ty tr tmn tmx:Int) (th:Bool) (mmn mmx:Int) (mh:Bool) (gt:Int) (gm:Bool) (v1 v2:Bool) (w:World)
  (h1:∀W,Calls QP 147 #[Qs s1] W fun e w'=>e=Qr (G v1)∧Below W.heap.size W w') (h2:∀W,Calls QP 147 #[Qs s2] W fun e w'=>e=Qr (G v2)∧Below W.heap.size W w') :
  Calls QP 33 #[.agg #[Qs s1,Qs s2,I J 3,I J ty,I J tr,I J tmn,I J tmx,G th,I J mmn,I J mmx,G mh,I J gt,G gm]] w fun e w'=>e=Qr (G (valB gt&&((ty==0)&&zTB tr tmn tmx th&&zLB mmn mmx mh)&&v1&&v2))∧Below w.heap.size w w':=by
 have HV1:=fun W=>hid (h1 W)
 have HV2:=fun W=>hid (h2 W)
 have HI:=fun W=>hid (isGlobalType_says gt gm W)
 generalize valB gt=a at *
 have hb0:=(QB w.heap.size w).alloc (Ql _) (Qc #[Qs s1,Qs s2,I J 3,I J ty,I J tr,I J tmn,I J tmx,G th,I J mmn,I J mmx,G mh,I J gt,G gm] 74)
 have hx0:=CA.new w #[Qs s1,Qs s2,I J 3,I J ty,I J tr,I J tmn,I J tmx,G th,I J mmn,I J mmx,G mh,I J gt,G gm] 74
 obtain ⟨x0,x1,x2,x3,x4,x5,x6,x7,x8,x9,x10,x11,x12⟩:=ca13 hx0
 have HB:=hid (hb0.alloc (by rw[size_al];omega) (Qc #[Qs s1,Qs s2,I J 3,I J 0,I J 0,I J 0,I J 0,G false,I J 0,I J 0,G false,I J 0,G false] 74))
 have HX:=hid (hx0.alloc (Qc #[Qs s1,Qs s2,I J 3,I J 0,I J 0,I J 0,I J 0,G false,I J 0,I J 0,G false,I J 0,G false] 74))
 have ho:=CA.new (w.alloc (Qc #[Qs s1,Qs s2,I J 3,I J ty,I J tr,I J tmn,I J tmx,G th,I J mmn,I J mmx,G mh,I J gt,G gm] 74)) #[Qs s1,Qs s2,I J 3,I J 0,I J 0,I J 0,I J 0,G false,I J 0,I J 0,G false,I J 0,G false] 74
 rw[size_al]at ho
 have HO0:=hid ho
 clear h1 h2 ho hb0 hx0
 go_enter Tryz.func33,Tryz.ntmps33
 go_upto_region 11 with fail
 clear x0 x1 x2 x3 x4 x5 x6 x7 x8 x9 x10 x11 x12
 have hS:Below w.heap.size w (((w.alloc (Qc #[Qs s1,Qs s2,I J 3,I J ty,I J tr,I J tmn,I J tmx,G th,I J mmn,I J mmx,G mh,I J gt,G gm] 74)).alloc (Qc #[Qs s1,Qs s2,I J 3,I J 0,I J 0,I J 0,I J 0,G false,I J 0,I J 0,G false,I J 0,G false] 74)).drew)∧CA w.heap.size #[Qs s1,Qs s2,I J 3,I J ty,I J tr,I J tmn,I J tmx,G th,I J mmn,I J mmx,G mh,I J gt,G gm] 74 (((w.alloc (Qc #[Qs s1,Qs s2,I J 3,I J ty,I J tr,I J tmn,I J tmx,G th,I J mmn,I J mmx,G mh,I J gt,G gm] 74)).alloc (Qc #[Qs s1,Qs s2,I J 3,I J 0,I J 0,I J 0,I J 0,G false,I J 0,I J 0,G false,I J 0,G false] 74)).drew):=⟨HB.out.drew,HX.out⟩
 have HO:Hid (CA (w.heap.size+1) #[Qs s1,Qs s2,I J 3,I J 0,I J 0,I J 0,I J 0,G false,I J 0,I J 0,G false,I J 0,G false] 74 (((w.alloc (Qc #[Qs s1,Qs s2,I J 3,I J ty,I J tr,I J tmn,I J tmx,G th,I J mmn,I J mmx,G mh,I J gt,G gm] 74)).alloc (Qc #[Qs s1,Qs s2,I J 3,I J 0,I J 0,I J 0,I J 0,G false,I J 0,I J 0,G false,I J 0,G false] 74)).drew)):=HO0
 clear HO0 HB HX
 refine wp_region_held_drew (S:=fun W=>Below w.heap.size w W∧CA w.heap.size #[Qs s1,Qs s2,I J 3,I J ty,I J tr,I J tmn,I J tmx,G th,I J mmn,I J mmx,G mh,I J gt,G gm] 74 W) (by kernel_rfl) hS (fun _=>?_)
 generalize ((w.alloc (Qc #[Qs s1,Qs s2,I J 3,I J ty,I J tr,I J tmn,I J tmx,G th,I J mmn,I J mmx,G mh,I J gt,G gm] 74)).alloc (Qc #[Qs s1,Qs s2,I J 3,I J 0,I J 0,I J 0,I J 0,G false,I J 0,I J 0,G false,I J 0,G false] 74)).drew=W at *
 refine zt 0 (Qp (some ⟨w.heap.size,11,none⟩)) rfl ?_ ?_
 ·(intro W hSw;obtain ⟨x0,x1,x2,x3,x4,x5,x6,x7,x8,x9,x10,x11,x12⟩:=ca13 hSw.2;go_simp;try (with_reducible rfl))
 try simp only[Qu,sl2,sl0,sl1]
 refine zt 1 (.agg #[I J gt,G gm]) rfl ?_ ?_
 ·(intro W hSw;obtain ⟨x0,x1,x2,x3,x4,x5,x6,x7,x8,x9,x10,x11,x12⟩:=ca13 hSw.2;go_simp;try (with_reducible rfl))
 try simp only[Qu,sl2,sl0,sl1]
 refine zt 2 (Qp (some ⟨w.heap.size,11,none⟩)) rfl ?_ ?_
 ·(intro W hSw;obtain ⟨x0,x1,x2,x3,x4,x5,x6,x7,x8,x9,x10,x11,x12⟩:=ca13 hSw.2;go_simp;try (with_reducible rfl))
 try simp only[Qu,sl2,sl0,sl1]
 refine zt 3 (.agg #[I J gt,G gm]) rfl ?_ ?_
 ·(intro W hSw;obtain ⟨x0,x1,x2,x3,x4,x5,x6,x7,x8,x9,x10,x11,x12⟩:=ca13 hSw.2;go_simp;try (with_reducible rfl))
 try simp only[Qu,sl2,sl0,sl1]
 refine zt 5 (Qp (some ⟨w.heap.size+1,11,none⟩)) rfl ?_ ?_
 ·(intro W hSw;obtain ⟨x0,x1,x2,x3,x4,x5,x6,x7,x8,x9,x10,x11,x12⟩:=ca13 hSw.2;go_simp;try (with_reducible rfl))
 try simp only[Qu,sl2,sl0,sl1]
 refine zr 4 rfl (fun K hK=>?_)
 go_simp
 go_at_call 146
 (with_reducible refine (HI W).out.mono ?_)
 rintro e W1 ⟨rfl,hb⟩
 replace HO:=Qe HO hb
 replace hS:=And.intro (hS.1.trans (hb.mono hS.1.size)) (hS.2.below hb hS.2.lt)
 clear hb
 refine hK.out _ _ hS (fun _=>?_)
 clear hK K
 try simp only[Qu,sl2,sl0,sl1]
 refine zr 6 rfl (fun K hK=>?_)
 have z0:=HO.out.at (k:=11) (v:=I J 0) rfl
 have q0:=HO.out.free 11
 have z1:=HO.out.at (k:=12) (v:=G false) rfl
 have q1:=HO.out.free 12
 go_simp
 have ho2:CA (w.heap.size+1) #[Qs s1,Qs s2,I J 3,I J 0,I J 0,I J 0,I J 0,G false,I J 0,I J 0,G false,I J gt,G gm] 74 ((W1.setCell ⟨w.heap.size+1,11,none⟩ (I J gt)).setCell ⟨w.heap.size+1,12,none⟩ (G gm)):=((HO.out.set (k:=11) (I J gt)).set (k:=12) (G gm))
 replace hS:=And.intro ((hS.1.setCell (p:=⟨w.heap.size+1,11,none⟩) (Nat.le_succ _) (I J gt)).setCell (p:=⟨w.heap.size+1,12,none⟩) (Nat.le_succ _) (G gm)) ((hS.2.far (o:=11) (Nat.ne_of_gt (Nat.lt_succ_self _)) (I J gt)).far (o:=12) (Nat.ne_of_gt (Nat.lt_succ_self _)) (G gm))
 have HO2:=hid ho2
 clear ho2 HO z0 q0 z1 q1
 generalize ((W1.setCell ⟨w.heap.size+1,11,none⟩ (I J gt)).setCell ⟨w.heap.size+1,12,none⟩ (G gm))=W9 at *
 refine hK.out _ _ hS (fun _=>?_)
 clear hK K
 try simp only[Qu,sl2,sl0,sl1]
 refine zt 7 (G a) rfl ?_ ?_
 ·(intro W hSw;obtain ⟨x0,x1,x2,x3,x4,x5,x6,x7,x8,x9,x10,x11,x12⟩:=ca13 hSw.2;go_simp;try (with_reducible rfl))
 try simp only[Qu,sl2,sl0,sl1]
 refine wpAnyH_done (by kernel_rfl) ?_ _
 have HF:=hid hS.1
 have HFX:=hid hS.2
 obtain ⟨y0,y1,y2,y3,y4,y5,y6,y7,y8,y9,y10,y11,y12⟩:=ca13 hS.2
 obtain ⟨o0,o1,o2,o3,o4,o5,o6,o7,o8,o9,o10,o11,o12⟩:=ca13 HO2.out
 clear hS
 go_wp2_with (first
  |(go_at_call 147;(with_reducible refine (HV1 _).out.mono ?_);rintro e w8 ⟨rfl,hb⟩;have HG:=Qd HF hb;have HGX:=Qe HFX hb;have y1:=HGX.out.at (k:=1) (v:=Qs s2) rfl;clear hb)
  |(go_at_call 147;(with_reducible refine (HV2 _).out.mono ?_);rintro e w9 ⟨rfl,hb⟩;have HH:=Qd HG hb;clear hb))
 all_goals
  go_ret
  first
   |exact ⟨by simp_all[zTB,zLB,zGB],HH.out⟩
   |exact ⟨by simp_all[zTB,zLB,zGB],HG.out⟩
   |exact ⟨by simp_all[zTB,zLB,zGB],HF.out⟩
end Go.Proofs.YtjgeedgphcjhoaaGreat
