/-
  MayG3, MayG4, MayG5, MayG, May, GVar, GAll1: merged, what the law does not reach left out (each text says what it holds where it lies in wip). No condition.
-/
import Derived.Test.YtjgeedgphcjhoaaGreatS06
import Derived.Test.YtjgeedgphcjhoaaGreatS02
import Derived.Test.YtjgeedgphcjhoaaGreatS05
import Derived.Test.YtjgeedgphcjhoaaGreatS01
set_option linter.unusedSimpArgs false
set_option linter.unusedVariables false
set_option maxRecDepth 100000
set_option maxHeartbeats 64000000
namespace Go.Proofs.YtjgeedgphcjhoaaGreat
open Go.RowKit
open Value renaming int → I,slice → V,bool → G,string → Qs
open IntKind renaming i64 → J
open Ending renaming returned → Qr
open Obj renaming cells → Qc
open _root_.Go.Proofs.Tryz renaming prog → QP
open Nat renaming le_refl → Ql,le_trans → Qk,zero_le → Qz
open Below renaming refl → QB
open List renaming range → QR
theorem MayG_6 (tp imp fp tbp mp gp xp ep dp:Option Addr) (tn tc imn imc fn fc tbn tbc mn mc gn gc xn xc en ec dn dc:Nat) (tb imb fb tbb mb gb xb sb eb db qb cnt:Bool) (st:Int) (w:World)
  (ht:∀W,Below w.heap.size w W→Calls QP 30 #[V tp tn tc,.func (.func 31) #[] #[]] W fun e w'=>e=Qr (G true)∧Below W.heap.size W w')
  (him:∀W,Below w.heap.size w W→Calls QP 32 #[V imp imn imc,.func (.func 33) #[] #[]] W fun e w'=>e=Qr (G true)∧Below W.heap.size W w')
  (hf:∀W,Below w.heap.size w W→Calls QP 34 #[V fp fn fc,.func (.func 35) #[] #[]] W fun e w'=>e=Qr (G true)∧Below W.heap.size W w')
  (htb:∀W,Below w.heap.size w W→Calls QP 36 #[V tbp tbn tbc,.func (.func 37) #[] #[]] W fun e w'=>e=Qr (G true)∧Below W.heap.size W w')
  (hm:∀W,Below w.heap.size w W→Calls QP 38 #[V mp mn mc,.func (.func 39) #[] #[]] W fun e w'=>e=Qr (G true)∧Below W.heap.size W w')
  (hg:∀W,Below w.heap.size w W→Calls QP 40 #[V gp gn gc,.func (.func 41) #[] #[]] W fun e w'=>e=Qr (G true)∧Below W.heap.size W w')
  (hx:∀W,Below w.heap.size w W→Calls QP 42 #[V xp xn xc,.func (.func 43) #[] #[]] W fun e w'=>e=Qr (G false)∧Below W.heap.size W w')
  (hs:∀W,Calls QP 44 #[I J st] W fun e w'=>e=Qr (G sb)∧W=w')
  (he:∀W,Below w.heap.size w W→Calls QP 45 #[V ep en ec,.func (.func 46) #[] #[]] W fun e w'=>e=Qr (G eb)∧Below W.heap.size W w')
  (hd:∀W,Below w.heap.size w W→Calls QP 47 #[V dp dn dc,.func (.func 48) #[] #[]] W fun e w'=>e=Qr (G db)∧Below W.heap.size W w')
  (hq:∀W,Below w.heap.size w W→Calls QP 34 #[V fp fn fc,.func (.func 49) #[] #[]] W fun e w'=>e=Qr (G qb)∧Below W.heap.size W w') :
  Calls QP 15 #[.agg #[V tp tn tc,V imp imn imc,V fp fn fc,V tbp tbn tbc,V mp mn mc,V gp gn gc,V xp xn xc,I J st,V ep en ec,V dp dn dc,G cnt]] w fun e w'=>e=Qr (G false)∧Below w.heap.size w w':=by
 have Ht:=fun W h=>hid (ht W h)
 have Him:=fun W h=>hid (him W h)
 have Hf:=fun W h=>hid (hf W h)
 have Htb:=fun W h=>hid (htb W h)
 have Hm:=fun W h=>hid (hm W h)
 have Hg:=fun W h=>hid (hg W h)
 have Hx:=fun W h=>hid (hx W h)
 have HS:=fun W=>hid (hs W)
 have He:=fun W h=>hid (he W h)
 have Hd:=fun W h=>hid (hd W h)
 have HQ:=fun W h=>hid (hq W h)
 have HBX:=hid ((QB w.heap.size w).alloc (Ql _) (Qc #[V tp tn tc,V imp imn imc,V fp fn fc,V tbp tbn tbc,V mp mn mc,V gp gn gc,V xp xn xc,I J st,V ep en ec,V dp dn dc,G cnt] 32))
 have HX:=hid (CA.new w #[V tp tn tc,V imp imn imc,V fp fn fc,V tbp tbn tbc,V mp mn mc,V gp gn gc,V xp xn xc,I J st,V ep en ec,V dp dn dc,G cnt] 32)
 obtain ⟨x0,x1,x2,x3,x4,x5,x6,x7,x8,x9,x10⟩:=ca11 HX.out
 clear ht him hf htb hm hg hx hs he hd hq
 go_enter Tryz.func15,Tryz.ntmps15
 go_wp2_with (first
  |(go_at_call 30;(with_reducible refine (Ht _ HBX.out).out.mono ?_);rintro e w10 ⟨rfl,hb⟩;have HB0:=Qd HBX hb;have HX0:=Qe HX hb;clear x0 x1 x2 x3 x4 x5 x6 x7 x8 x9 x10;obtain ⟨x0,x1,x2,x3,x4,x5,x6,x7,x8,x9,x10⟩:=ca11 HX0.out;clear hb)
  |(go_at_call 32;(with_reducible refine (Him _ HB0.out).out.mono ?_);rintro e w11 ⟨rfl,hb⟩;have HB1:=Qd HB0 hb;have HX1:=Qe HX0 hb;clear x0 x1 x2 x3 x4 x5 x6 x7 x8 x9 x10;obtain ⟨x0,x1,x2,x3,x4,x5,x6,x7,x8,x9,x10⟩:=ca11 HX1.out;clear hb)
  |(go_at_call 34;(with_reducible refine (Hf _ HB1.out).out.mono ?_);rintro e w12 ⟨rfl,hb⟩;have HB2:=Qd HB1 hb;have HX2:=Qe HX1 hb;clear x0 x1 x2 x3 x4 x5 x6 x7 x8 x9 x10;obtain ⟨x0,x1,x2,x3,x4,x5,x6,x7,x8,x9,x10⟩:=ca11 HX2.out;clear hb)
  |(go_at_call 36;(with_reducible refine (Htb _ HB2.out).out.mono ?_);rintro e w13 ⟨rfl,hb⟩;have HB3:=Qd HB2 hb;have HX3:=Qe HX2 hb;clear x0 x1 x2 x3 x4 x5 x6 x7 x8 x9 x10;obtain ⟨x0,x1,x2,x3,x4,x5,x6,x7,x8,x9,x10⟩:=ca11 HX3.out;clear hb)
  |(go_at_call 38;(with_reducible refine (Hm _ HB3.out).out.mono ?_);rintro e w14 ⟨rfl,hb⟩;have HB4:=Qd HB3 hb;have HX4:=Qe HX3 hb;clear x0 x1 x2 x3 x4 x5 x6 x7 x8 x9 x10;obtain ⟨x0,x1,x2,x3,x4,x5,x6,x7,x8,x9,x10⟩:=ca11 HX4.out;clear hb)
  |(go_at_call 40;(with_reducible refine (Hg _ HB4.out).out.mono ?_);rintro e w15 ⟨rfl,hb⟩;have HB5:=Qd HB4 hb;have HX5:=Qe HX4 hb;clear x0 x1 x2 x3 x4 x5 x6 x7 x8 x9 x10;obtain ⟨x0,x1,x2,x3,x4,x5,x6,x7,x8,x9,x10⟩:=ca11 HX5.out;clear hb)
  |(go_at_call 42;(with_reducible refine (Hx _ HB5.out).out.mono ?_);rintro e w16 ⟨rfl,hb⟩;have HB6:=Qd HB5 hb;have HX6:=Qe HX5 hb;clear x0 x1 x2 x3 x4 x5 x6 x7 x8 x9 x10;obtain ⟨x0,x1,x2,x3,x4,x5,x6,x7,x8,x9,x10⟩:=ca11 HX6.out;clear hb))
 go_ret
 exact ⟨rfl,HB6.out⟩
theorem MayG_7 (tp imp fp tbp mp gp xp ep dp:Option Addr) (tn tc imn imc fn fc tbn tbc mn mc gn gc xn xc en ec dn dc:Nat) (tb imb fb tbb mb gb xb sb eb db qb cnt:Bool) (st:Int) (w:World)
  (ht:∀W,Below w.heap.size w W→Calls QP 30 #[V tp tn tc,.func (.func 31) #[] #[]] W fun e w'=>e=Qr (G true)∧Below W.heap.size W w')
  (him:∀W,Below w.heap.size w W→Calls QP 32 #[V imp imn imc,.func (.func 33) #[] #[]] W fun e w'=>e=Qr (G true)∧Below W.heap.size W w')
  (hf:∀W,Below w.heap.size w W→Calls QP 34 #[V fp fn fc,.func (.func 35) #[] #[]] W fun e w'=>e=Qr (G true)∧Below W.heap.size W w')
  (htb:∀W,Below w.heap.size w W→Calls QP 36 #[V tbp tbn tbc,.func (.func 37) #[] #[]] W fun e w'=>e=Qr (G true)∧Below W.heap.size W w')
  (hm:∀W,Below w.heap.size w W→Calls QP 38 #[V mp mn mc,.func (.func 39) #[] #[]] W fun e w'=>e=Qr (G true)∧Below W.heap.size W w')
  (hg:∀W,Below w.heap.size w W→Calls QP 40 #[V gp gn gc,.func (.func 41) #[] #[]] W fun e w'=>e=Qr (G true)∧Below W.heap.size W w')
  (hx:∀W,Below w.heap.size w W→Calls QP 42 #[V xp xn xc,.func (.func 43) #[] #[]] W fun e w'=>e=Qr (G true)∧Below W.heap.size W w')
  (hs:∀W,Calls QP 44 #[I J st] W fun e w'=>e=Qr (G false)∧W=w')
  (he:∀W,Below w.heap.size w W→Calls QP 45 #[V ep en ec,.func (.func 46) #[] #[]] W fun e w'=>e=Qr (G eb)∧Below W.heap.size W w')
  (hd:∀W,Below w.heap.size w W→Calls QP 47 #[V dp dn dc,.func (.func 48) #[] #[]] W fun e w'=>e=Qr (G db)∧Below W.heap.size W w')
  (hq:∀W,Below w.heap.size w W→Calls QP 34 #[V fp fn fc,.func (.func 49) #[] #[]] W fun e w'=>e=Qr (G qb)∧Below W.heap.size W w') :
  Calls QP 15 #[.agg #[V tp tn tc,V imp imn imc,V fp fn fc,V tbp tbn tbc,V mp mn mc,V gp gn gc,V xp xn xc,I J st,V ep en ec,V dp dn dc,G cnt]] w fun e w'=>e=Qr (G false)∧Below w.heap.size w w':=by
 have Ht:=fun W h=>hid (ht W h)
 have Him:=fun W h=>hid (him W h)
 have Hf:=fun W h=>hid (hf W h)
 have Htb:=fun W h=>hid (htb W h)
 have Hm:=fun W h=>hid (hm W h)
 have Hg:=fun W h=>hid (hg W h)
 have Hx:=fun W h=>hid (hx W h)
 have HS:=fun W=>hid (hs W)
 have He:=fun W h=>hid (he W h)
 have Hd:=fun W h=>hid (hd W h)
 have HQ:=fun W h=>hid (hq W h)
 have HBX:=hid ((QB w.heap.size w).alloc (Ql _) (Qc #[V tp tn tc,V imp imn imc,V fp fn fc,V tbp tbn tbc,V mp mn mc,V gp gn gc,V xp xn xc,I J st,V ep en ec,V dp dn dc,G cnt] 32))
 have HX:=hid (CA.new w #[V tp tn tc,V imp imn imc,V fp fn fc,V tbp tbn tbc,V mp mn mc,V gp gn gc,V xp xn xc,I J st,V ep en ec,V dp dn dc,G cnt] 32)
 obtain ⟨x0,x1,x2,x3,x4,x5,x6,x7,x8,x9,x10⟩:=ca11 HX.out
 clear ht him hf htb hm hg hx hs he hd hq
 go_enter Tryz.func15,Tryz.ntmps15
 go_wp2_with (first
  |(go_at_call 30;(with_reducible refine (Ht _ HBX.out).out.mono ?_);rintro e w10 ⟨rfl,hb⟩;have HB0:=Qd HBX hb;have HX0:=Qe HX hb;clear x0 x1 x2 x3 x4 x5 x6 x7 x8 x9 x10;obtain ⟨x0,x1,x2,x3,x4,x5,x6,x7,x8,x9,x10⟩:=ca11 HX0.out;clear hb)
  |(go_at_call 32;(with_reducible refine (Him _ HB0.out).out.mono ?_);rintro e w11 ⟨rfl,hb⟩;have HB1:=Qd HB0 hb;have HX1:=Qe HX0 hb;clear x0 x1 x2 x3 x4 x5 x6 x7 x8 x9 x10;obtain ⟨x0,x1,x2,x3,x4,x5,x6,x7,x8,x9,x10⟩:=ca11 HX1.out;clear hb)
  |(go_at_call 34;(with_reducible refine (Hf _ HB1.out).out.mono ?_);rintro e w12 ⟨rfl,hb⟩;have HB2:=Qd HB1 hb;have HX2:=Qe HX1 hb;clear x0 x1 x2 x3 x4 x5 x6 x7 x8 x9 x10;obtain ⟨x0,x1,x2,x3,x4,x5,x6,x7,x8,x9,x10⟩:=ca11 HX2.out;clear hb)
  |(go_at_call 36;(with_reducible refine (Htb _ HB2.out).out.mono ?_);rintro e w13 ⟨rfl,hb⟩;have HB3:=Qd HB2 hb;have HX3:=Qe HX2 hb;clear x0 x1 x2 x3 x4 x5 x6 x7 x8 x9 x10;obtain ⟨x0,x1,x2,x3,x4,x5,x6,x7,x8,x9,x10⟩:=ca11 HX3.out;clear hb)
  |(go_at_call 38;(with_reducible refine (Hm _ HB3.out).out.mono ?_);rintro e w14 ⟨rfl,hb⟩;have HB4:=Qd HB3 hb;have HX4:=Qe HX3 hb;clear x0 x1 x2 x3 x4 x5 x6 x7 x8 x9 x10;obtain ⟨x0,x1,x2,x3,x4,x5,x6,x7,x8,x9,x10⟩:=ca11 HX4.out;clear hb)
  |(go_at_call 40;(with_reducible refine (Hg _ HB4.out).out.mono ?_);rintro e w15 ⟨rfl,hb⟩;have HB5:=Qd HB4 hb;have HX5:=Qe HX4 hb;clear x0 x1 x2 x3 x4 x5 x6 x7 x8 x9 x10;obtain ⟨x0,x1,x2,x3,x4,x5,x6,x7,x8,x9,x10⟩:=ca11 HX5.out;clear hb)
  |(go_at_call 42;(with_reducible refine (Hx _ HB5.out).out.mono ?_);rintro e w16 ⟨rfl,hb⟩;have HB6:=Qd HB5 hb;have HX6:=Qe HX5 hb;clear x0 x1 x2 x3 x4 x5 x6 x7 x8 x9 x10;obtain ⟨x0,x1,x2,x3,x4,x5,x6,x7,x8,x9,x10⟩:=ca11 HX6.out;clear hb)
  |(go_at_call 44;(with_reducible refine (HS _).out.mono ?_);rintro e w5 ⟨rfl,rfl⟩))
 go_ret
 exact ⟨rfl,HB6.out⟩
theorem MayG_8 (tp imp fp tbp mp gp xp ep dp:Option Addr) (tn tc imn imc fn fc tbn tbc mn mc gn gc xn xc en ec dn dc:Nat) (tb imb fb tbb mb gb xb sb eb db qb cnt:Bool) (st:Int) (w:World)
  (ht:∀W,Below w.heap.size w W→Calls QP 30 #[V tp tn tc,.func (.func 31) #[] #[]] W fun e w'=>e=Qr (G true)∧Below W.heap.size W w')
  (him:∀W,Below w.heap.size w W→Calls QP 32 #[V imp imn imc,.func (.func 33) #[] #[]] W fun e w'=>e=Qr (G true)∧Below W.heap.size W w')
  (hf:∀W,Below w.heap.size w W→Calls QP 34 #[V fp fn fc,.func (.func 35) #[] #[]] W fun e w'=>e=Qr (G true)∧Below W.heap.size W w')
  (htb:∀W,Below w.heap.size w W→Calls QP 36 #[V tbp tbn tbc,.func (.func 37) #[] #[]] W fun e w'=>e=Qr (G true)∧Below W.heap.size W w')
  (hm:∀W,Below w.heap.size w W→Calls QP 38 #[V mp mn mc,.func (.func 39) #[] #[]] W fun e w'=>e=Qr (G true)∧Below W.heap.size W w')
  (hg:∀W,Below w.heap.size w W→Calls QP 40 #[V gp gn gc,.func (.func 41) #[] #[]] W fun e w'=>e=Qr (G true)∧Below W.heap.size W w')
  (hx:∀W,Below w.heap.size w W→Calls QP 42 #[V xp xn xc,.func (.func 43) #[] #[]] W fun e w'=>e=Qr (G true)∧Below W.heap.size W w')
  (hs:∀W,Calls QP 44 #[I J st] W fun e w'=>e=Qr (G true)∧W=w')
  (he:∀W,Below w.heap.size w W→Calls QP 45 #[V ep en ec,.func (.func 46) #[] #[]] W fun e w'=>e=Qr (G false)∧Below W.heap.size W w')
  (hd:∀W,Below w.heap.size w W→Calls QP 47 #[V dp dn dc,.func (.func 48) #[] #[]] W fun e w'=>e=Qr (G db)∧Below W.heap.size W w')
  (hq:∀W,Below w.heap.size w W→Calls QP 34 #[V fp fn fc,.func (.func 49) #[] #[]] W fun e w'=>e=Qr (G qb)∧Below W.heap.size W w') :
  Calls QP 15 #[.agg #[V tp tn tc,V imp imn imc,V fp fn fc,V tbp tbn tbc,V mp mn mc,V gp gn gc,V xp xn xc,I J st,V ep en ec,V dp dn dc,G cnt]] w fun e w'=>e=Qr (G false)∧Below w.heap.size w w':=by
 have Ht:=fun W h=>hid (ht W h)
 have Him:=fun W h=>hid (him W h)
 have Hf:=fun W h=>hid (hf W h)
 have Htb:=fun W h=>hid (htb W h)
 have Hm:=fun W h=>hid (hm W h)
 have Hg:=fun W h=>hid (hg W h)
 have Hx:=fun W h=>hid (hx W h)
 have HS:=fun W=>hid (hs W)
 have He:=fun W h=>hid (he W h)
 have Hd:=fun W h=>hid (hd W h)
 have HQ:=fun W h=>hid (hq W h)
 have HBX:=hid ((QB w.heap.size w).alloc (Ql _) (Qc #[V tp tn tc,V imp imn imc,V fp fn fc,V tbp tbn tbc,V mp mn mc,V gp gn gc,V xp xn xc,I J st,V ep en ec,V dp dn dc,G cnt] 32))
 have HX:=hid (CA.new w #[V tp tn tc,V imp imn imc,V fp fn fc,V tbp tbn tbc,V mp mn mc,V gp gn gc,V xp xn xc,I J st,V ep en ec,V dp dn dc,G cnt] 32)
 obtain ⟨x0,x1,x2,x3,x4,x5,x6,x7,x8,x9,x10⟩:=ca11 HX.out
 clear ht him hf htb hm hg hx hs he hd hq
 go_enter Tryz.func15,Tryz.ntmps15
 go_wp2_with (first
  |(go_at_call 30;(with_reducible refine (Ht _ HBX.out).out.mono ?_);rintro e w10 ⟨rfl,hb⟩;have HB0:=Qd HBX hb;have HX0:=Qe HX hb;clear x0 x1 x2 x3 x4 x5 x6 x7 x8 x9 x10;obtain ⟨x0,x1,x2,x3,x4,x5,x6,x7,x8,x9,x10⟩:=ca11 HX0.out;clear hb)
  |(go_at_call 32;(with_reducible refine (Him _ HB0.out).out.mono ?_);rintro e w11 ⟨rfl,hb⟩;have HB1:=Qd HB0 hb;have HX1:=Qe HX0 hb;clear x0 x1 x2 x3 x4 x5 x6 x7 x8 x9 x10;obtain ⟨x0,x1,x2,x3,x4,x5,x6,x7,x8,x9,x10⟩:=ca11 HX1.out;clear hb)
  |(go_at_call 34;(with_reducible refine (Hf _ HB1.out).out.mono ?_);rintro e w12 ⟨rfl,hb⟩;have HB2:=Qd HB1 hb;have HX2:=Qe HX1 hb;clear x0 x1 x2 x3 x4 x5 x6 x7 x8 x9 x10;obtain ⟨x0,x1,x2,x3,x4,x5,x6,x7,x8,x9,x10⟩:=ca11 HX2.out;clear hb)
  |(go_at_call 36;(with_reducible refine (Htb _ HB2.out).out.mono ?_);rintro e w13 ⟨rfl,hb⟩;have HB3:=Qd HB2 hb;have HX3:=Qe HX2 hb;clear x0 x1 x2 x3 x4 x5 x6 x7 x8 x9 x10;obtain ⟨x0,x1,x2,x3,x4,x5,x6,x7,x8,x9,x10⟩:=ca11 HX3.out;clear hb)
  |(go_at_call 38;(with_reducible refine (Hm _ HB3.out).out.mono ?_);rintro e w14 ⟨rfl,hb⟩;have HB4:=Qd HB3 hb;have HX4:=Qe HX3 hb;clear x0 x1 x2 x3 x4 x5 x6 x7 x8 x9 x10;obtain ⟨x0,x1,x2,x3,x4,x5,x6,x7,x8,x9,x10⟩:=ca11 HX4.out;clear hb)
  |(go_at_call 40;(with_reducible refine (Hg _ HB4.out).out.mono ?_);rintro e w15 ⟨rfl,hb⟩;have HB5:=Qd HB4 hb;have HX5:=Qe HX4 hb;clear x0 x1 x2 x3 x4 x5 x6 x7 x8 x9 x10;obtain ⟨x0,x1,x2,x3,x4,x5,x6,x7,x8,x9,x10⟩:=ca11 HX5.out;clear hb)
  |(go_at_call 42;(with_reducible refine (Hx _ HB5.out).out.mono ?_);rintro e w16 ⟨rfl,hb⟩;have HB6:=Qd HB5 hb;have HX6:=Qe HX5 hb;clear x0 x1 x2 x3 x4 x5 x6 x7 x8 x9 x10;obtain ⟨x0,x1,x2,x3,x4,x5,x6,x7,x8,x9,x10⟩:=ca11 HX6.out;clear hb)
  |(go_at_call 44;(with_reducible refine (HS _).out.mono ?_);rintro e w5 ⟨rfl,rfl⟩)
  |(go_at_call 45;(with_reducible refine (He _ HB6.out).out.mono ?_);rintro e w18 ⟨rfl,hb⟩;have HB8:=Qd HB6 hb;have HX8:=Qe HX6 hb;clear x0 x1 x2 x3 x4 x5 x6 x7 x8 x9 x10;obtain ⟨x0,x1,x2,x3,x4,x5,x6,x7,x8,x9,x10⟩:=ca11 HX8.out;clear hb))
 go_ret
 exact ⟨rfl,HB8.out⟩
theorem MayG_9 (tp imp fp tbp mp gp xp ep dp:Option Addr) (tn tc imn imc fn fc tbn tbc mn mc gn gc xn xc en ec dn dc:Nat) (tb imb fb tbb mb gb xb sb eb db qb cnt:Bool) (st:Int) (w:World)
  (ht:∀W,Below w.heap.size w W→Calls QP 30 #[V tp tn tc,.func (.func 31) #[] #[]] W fun e w'=>e=Qr (G true)∧Below W.heap.size W w')
  (him:∀W,Below w.heap.size w W→Calls QP 32 #[V imp imn imc,.func (.func 33) #[] #[]] W fun e w'=>e=Qr (G true)∧Below W.heap.size W w')
  (hf:∀W,Below w.heap.size w W→Calls QP 34 #[V fp fn fc,.func (.func 35) #[] #[]] W fun e w'=>e=Qr (G true)∧Below W.heap.size W w')
  (htb:∀W,Below w.heap.size w W→Calls QP 36 #[V tbp tbn tbc,.func (.func 37) #[] #[]] W fun e w'=>e=Qr (G true)∧Below W.heap.size W w')
  (hm:∀W,Below w.heap.size w W→Calls QP 38 #[V mp mn mc,.func (.func 39) #[] #[]] W fun e w'=>e=Qr (G true)∧Below W.heap.size W w')
  (hg:∀W,Below w.heap.size w W→Calls QP 40 #[V gp gn gc,.func (.func 41) #[] #[]] W fun e w'=>e=Qr (G true)∧Below W.heap.size W w')
  (hx:∀W,Below w.heap.size w W→Calls QP 42 #[V xp xn xc,.func (.func 43) #[] #[]] W fun e w'=>e=Qr (G true)∧Below W.heap.size W w')
  (hs:∀W,Calls QP 44 #[I J st] W fun e w'=>e=Qr (G true)∧W=w')
  (he:∀W,Below w.heap.size w W→Calls QP 45 #[V ep en ec,.func (.func 46) #[] #[]] W fun e w'=>e=Qr (G true)∧Below W.heap.size W w')
  (hd:∀W,Below w.heap.size w W→Calls QP 47 #[V dp dn dc,.func (.func 48) #[] #[]] W fun e w'=>e=Qr (G false)∧Below W.heap.size W w')
  (hq:∀W,Below w.heap.size w W→Calls QP 34 #[V fp fn fc,.func (.func 49) #[] #[]] W fun e w'=>e=Qr (G qb)∧Below W.heap.size W w') :
  Calls QP 15 #[.agg #[V tp tn tc,V imp imn imc,V fp fn fc,V tbp tbn tbc,V mp mn mc,V gp gn gc,V xp xn xc,I J st,V ep en ec,V dp dn dc,G cnt]] w fun e w'=>e=Qr (G false)∧Below w.heap.size w w':=by
 have Ht:=fun W h=>hid (ht W h)
 have Him:=fun W h=>hid (him W h)
 have Hf:=fun W h=>hid (hf W h)
 have Htb:=fun W h=>hid (htb W h)
 have Hm:=fun W h=>hid (hm W h)
 have Hg:=fun W h=>hid (hg W h)
 have Hx:=fun W h=>hid (hx W h)
 have HS:=fun W=>hid (hs W)
 have He:=fun W h=>hid (he W h)
 have Hd:=fun W h=>hid (hd W h)
 have HQ:=fun W h=>hid (hq W h)
 have HBX:=hid ((QB w.heap.size w).alloc (Ql _) (Qc #[V tp tn tc,V imp imn imc,V fp fn fc,V tbp tbn tbc,V mp mn mc,V gp gn gc,V xp xn xc,I J st,V ep en ec,V dp dn dc,G cnt] 32))
 have HX:=hid (CA.new w #[V tp tn tc,V imp imn imc,V fp fn fc,V tbp tbn tbc,V mp mn mc,V gp gn gc,V xp xn xc,I J st,V ep en ec,V dp dn dc,G cnt] 32)
 obtain ⟨x0,x1,x2,x3,x4,x5,x6,x7,x8,x9,x10⟩:=ca11 HX.out
 clear ht him hf htb hm hg hx hs he hd hq
 go_enter Tryz.func15,Tryz.ntmps15
 go_wp2_with (first
  |(go_at_call 30;(with_reducible refine (Ht _ HBX.out).out.mono ?_);rintro e w10 ⟨rfl,hb⟩;have HB0:=Qd HBX hb;have HX0:=Qe HX hb;clear x0 x1 x2 x3 x4 x5 x6 x7 x8 x9 x10;obtain ⟨x0,x1,x2,x3,x4,x5,x6,x7,x8,x9,x10⟩:=ca11 HX0.out;clear hb)
  |(go_at_call 32;(with_reducible refine (Him _ HB0.out).out.mono ?_);rintro e w11 ⟨rfl,hb⟩;have HB1:=Qd HB0 hb;have HX1:=Qe HX0 hb;clear x0 x1 x2 x3 x4 x5 x6 x7 x8 x9 x10;obtain ⟨x0,x1,x2,x3,x4,x5,x6,x7,x8,x9,x10⟩:=ca11 HX1.out;clear hb)
  |(go_at_call 34;(with_reducible refine (Hf _ HB1.out).out.mono ?_);rintro e w12 ⟨rfl,hb⟩;have HB2:=Qd HB1 hb;have HX2:=Qe HX1 hb;clear x0 x1 x2 x3 x4 x5 x6 x7 x8 x9 x10;obtain ⟨x0,x1,x2,x3,x4,x5,x6,x7,x8,x9,x10⟩:=ca11 HX2.out;clear hb)
  |(go_at_call 36;(with_reducible refine (Htb _ HB2.out).out.mono ?_);rintro e w13 ⟨rfl,hb⟩;have HB3:=Qd HB2 hb;have HX3:=Qe HX2 hb;clear x0 x1 x2 x3 x4 x5 x6 x7 x8 x9 x10;obtain ⟨x0,x1,x2,x3,x4,x5,x6,x7,x8,x9,x10⟩:=ca11 HX3.out;clear hb)
  |(go_at_call 38;(with_reducible refine (Hm _ HB3.out).out.mono ?_);rintro e w14 ⟨rfl,hb⟩;have HB4:=Qd HB3 hb;have HX4:=Qe HX3 hb;clear x0 x1 x2 x3 x4 x5 x6 x7 x8 x9 x10;obtain ⟨x0,x1,x2,x3,x4,x5,x6,x7,x8,x9,x10⟩:=ca11 HX4.out;clear hb)
  |(go_at_call 40;(with_reducible refine (Hg _ HB4.out).out.mono ?_);rintro e w15 ⟨rfl,hb⟩;have HB5:=Qd HB4 hb;have HX5:=Qe HX4 hb;clear x0 x1 x2 x3 x4 x5 x6 x7 x8 x9 x10;obtain ⟨x0,x1,x2,x3,x4,x5,x6,x7,x8,x9,x10⟩:=ca11 HX5.out;clear hb)
  |(go_at_call 42;(with_reducible refine (Hx _ HB5.out).out.mono ?_);rintro e w16 ⟨rfl,hb⟩;have HB6:=Qd HB5 hb;have HX6:=Qe HX5 hb;clear x0 x1 x2 x3 x4 x5 x6 x7 x8 x9 x10;obtain ⟨x0,x1,x2,x3,x4,x5,x6,x7,x8,x9,x10⟩:=ca11 HX6.out;clear hb)
  |(go_at_call 44;(with_reducible refine (HS _).out.mono ?_);rintro e w5 ⟨rfl,rfl⟩)
  |(go_at_call 45;(with_reducible refine (He _ HB6.out).out.mono ?_);rintro e w18 ⟨rfl,hb⟩;have HB8:=Qd HB6 hb;have HX8:=Qe HX6 hb;clear x0 x1 x2 x3 x4 x5 x6 x7 x8 x9 x10;obtain ⟨x0,x1,x2,x3,x4,x5,x6,x7,x8,x9,x10⟩:=ca11 HX8.out;clear hb)
  |(go_at_call 47;(with_reducible refine (Hd _ HB8.out).out.mono ?_);rintro e w19 ⟨rfl,hb⟩;have HB9:=Qd HB8 hb;have HX9:=Qe HX8 hb;clear x0 x1 x2 x3 x4 x5 x6 x7 x8 x9 x10;obtain ⟨x0,x1,x2,x3,x4,x5,x6,x7,x8,x9,x10⟩:=ca11 HX9.out;clear hb))
 go_ret
 exact ⟨rfl,HB9.out⟩
theorem MayG_10 (tp imp fp tbp mp gp xp ep dp:Option Addr) (tn tc imn imc fn fc tbn tbc mn mc gn gc xn xc en ec dn dc:Nat) (tb imb fb tbb mb gb xb sb eb db qb cnt:Bool) (st:Int) (w:World)
  (ht:∀W,Below w.heap.size w W→Calls QP 30 #[V tp tn tc,.func (.func 31) #[] #[]] W fun e w'=>e=Qr (G true)∧Below W.heap.size W w')
  (him:∀W,Below w.heap.size w W→Calls QP 32 #[V imp imn imc,.func (.func 33) #[] #[]] W fun e w'=>e=Qr (G true)∧Below W.heap.size W w')
  (hf:∀W,Below w.heap.size w W→Calls QP 34 #[V fp fn fc,.func (.func 35) #[] #[]] W fun e w'=>e=Qr (G true)∧Below W.heap.size W w')
  (htb:∀W,Below w.heap.size w W→Calls QP 36 #[V tbp tbn tbc,.func (.func 37) #[] #[]] W fun e w'=>e=Qr (G true)∧Below W.heap.size W w')
  (hm:∀W,Below w.heap.size w W→Calls QP 38 #[V mp mn mc,.func (.func 39) #[] #[]] W fun e w'=>e=Qr (G true)∧Below W.heap.size W w')
  (hg:∀W,Below w.heap.size w W→Calls QP 40 #[V gp gn gc,.func (.func 41) #[] #[]] W fun e w'=>e=Qr (G true)∧Below W.heap.size W w')
  (hx:∀W,Below w.heap.size w W→Calls QP 42 #[V xp xn xc,.func (.func 43) #[] #[]] W fun e w'=>e=Qr (G true)∧Below W.heap.size W w')
  (hs:∀W,Calls QP 44 #[I J st] W fun e w'=>e=Qr (G true)∧W=w')
  (he:∀W,Below w.heap.size w W→Calls QP 45 #[V ep en ec,.func (.func 46) #[] #[]] W fun e w'=>e=Qr (G true)∧Below W.heap.size W w')
  (hd:∀W,Below w.heap.size w W→Calls QP 47 #[V dp dn dc,.func (.func 48) #[] #[]] W fun e w'=>e=Qr (G true)∧Below W.heap.size W w')
  (hq:∀W,Below w.heap.size w W→Calls QP 34 #[V fp fn fc,.func (.func 49) #[] #[]] W fun e w'=>e=Qr (G qb)∧Below W.heap.size W w') :
  Calls QP 15 #[.agg #[V tp tn tc,V imp imn imc,V fp fn fc,V tbp tbn tbc,V mp mn mc,V gp gn gc,V xp xn xc,I J st,V ep en ec,V dp dn dc,G true]] w fun e w'=>e=Qr (G true)∧Below w.heap.size w w':=by
 have Ht:=fun W h=>hid (ht W h)
 have Him:=fun W h=>hid (him W h)
 have Hf:=fun W h=>hid (hf W h)
 have Htb:=fun W h=>hid (htb W h)
 have Hm:=fun W h=>hid (hm W h)
 have Hg:=fun W h=>hid (hg W h)
 have Hx:=fun W h=>hid (hx W h)
 have HS:=fun W=>hid (hs W)
 have He:=fun W h=>hid (he W h)
 have Hd:=fun W h=>hid (hd W h)
 have HQ:=fun W h=>hid (hq W h)
 have HBX:=hid ((QB w.heap.size w).alloc (Ql _) (Qc #[V tp tn tc,V imp imn imc,V fp fn fc,V tbp tbn tbc,V mp mn mc,V gp gn gc,V xp xn xc,I J st,V ep en ec,V dp dn dc,G true] 32))
 have HX:=hid (CA.new w #[V tp tn tc,V imp imn imc,V fp fn fc,V tbp tbn tbc,V mp mn mc,V gp gn gc,V xp xn xc,I J st,V ep en ec,V dp dn dc,G true] 32)
 obtain ⟨x0,x1,x2,x3,x4,x5,x6,x7,x8,x9,x10⟩:=ca11 HX.out
 clear ht him hf htb hm hg hx hs he hd hq
 go_enter Tryz.func15,Tryz.ntmps15
 go_wp2_with (first
  |(go_at_call 30;(with_reducible refine (Ht _ HBX.out).out.mono ?_);rintro e w10 ⟨rfl,hb⟩;have HB0:=Qd HBX hb;have HX0:=Qe HX hb;clear x0 x1 x2 x3 x4 x5 x6 x7 x8 x9 x10;obtain ⟨x0,x1,x2,x3,x4,x5,x6,x7,x8,x9,x10⟩:=ca11 HX0.out;clear hb)
  |(go_at_call 32;(with_reducible refine (Him _ HB0.out).out.mono ?_);rintro e w11 ⟨rfl,hb⟩;have HB1:=Qd HB0 hb;have HX1:=Qe HX0 hb;clear x0 x1 x2 x3 x4 x5 x6 x7 x8 x9 x10;obtain ⟨x0,x1,x2,x3,x4,x5,x6,x7,x8,x9,x10⟩:=ca11 HX1.out;clear hb)
  |(go_at_call 34;(with_reducible refine (Hf _ HB1.out).out.mono ?_);rintro e w12 ⟨rfl,hb⟩;have HB2:=Qd HB1 hb;have HX2:=Qe HX1 hb;clear x0 x1 x2 x3 x4 x5 x6 x7 x8 x9 x10;obtain ⟨x0,x1,x2,x3,x4,x5,x6,x7,x8,x9,x10⟩:=ca11 HX2.out;clear hb)
  |(go_at_call 36;(with_reducible refine (Htb _ HB2.out).out.mono ?_);rintro e w13 ⟨rfl,hb⟩;have HB3:=Qd HB2 hb;have HX3:=Qe HX2 hb;clear x0 x1 x2 x3 x4 x5 x6 x7 x8 x9 x10;obtain ⟨x0,x1,x2,x3,x4,x5,x6,x7,x8,x9,x10⟩:=ca11 HX3.out;clear hb)
  |(go_at_call 38;(with_reducible refine (Hm _ HB3.out).out.mono ?_);rintro e w14 ⟨rfl,hb⟩;have HB4:=Qd HB3 hb;have HX4:=Qe HX3 hb;clear x0 x1 x2 x3 x4 x5 x6 x7 x8 x9 x10;obtain ⟨x0,x1,x2,x3,x4,x5,x6,x7,x8,x9,x10⟩:=ca11 HX4.out;clear hb)
  |(go_at_call 40;(with_reducible refine (Hg _ HB4.out).out.mono ?_);rintro e w15 ⟨rfl,hb⟩;have HB5:=Qd HB4 hb;have HX5:=Qe HX4 hb;clear x0 x1 x2 x3 x4 x5 x6 x7 x8 x9 x10;obtain ⟨x0,x1,x2,x3,x4,x5,x6,x7,x8,x9,x10⟩:=ca11 HX5.out;clear hb)
  |(go_at_call 42;(with_reducible refine (Hx _ HB5.out).out.mono ?_);rintro e w16 ⟨rfl,hb⟩;have HB6:=Qd HB5 hb;have HX6:=Qe HX5 hb;clear x0 x1 x2 x3 x4 x5 x6 x7 x8 x9 x10;obtain ⟨x0,x1,x2,x3,x4,x5,x6,x7,x8,x9,x10⟩:=ca11 HX6.out;clear hb)
  |(go_at_call 44;(with_reducible refine (HS _).out.mono ?_);rintro e w5 ⟨rfl,rfl⟩)
  |(go_at_call 45;(with_reducible refine (He _ HB6.out).out.mono ?_);rintro e w18 ⟨rfl,hb⟩;have HB8:=Qd HB6 hb;have HX8:=Qe HX6 hb;clear x0 x1 x2 x3 x4 x5 x6 x7 x8 x9 x10;obtain ⟨x0,x1,x2,x3,x4,x5,x6,x7,x8,x9,x10⟩:=ca11 HX8.out;clear hb)
  |(go_at_call 47;(with_reducible refine (Hd _ HB8.out).out.mono ?_);rintro e w19 ⟨rfl,hb⟩;have HB9:=Qd HB8 hb;have HX9:=Qe HX8 hb;clear x0 x1 x2 x3 x4 x5 x6 x7 x8 x9 x10;obtain ⟨x0,x1,x2,x3,x4,x5,x6,x7,x8,x9,x10⟩:=ca11 HX9.out;clear hb))
 go_ret
 exact ⟨rfl,HB9.out⟩
theorem MayG_11 (tp imp fp tbp mp gp xp ep dp:Option Addr) (tn tc imn imc fn fc tbn tbc mn mc gn gc xn xc en ec dn dc:Nat) (tb imb fb tbb mb gb xb sb eb db qb cnt:Bool) (st:Int) (w:World)
  (ht:∀W,Below w.heap.size w W→Calls QP 30 #[V tp tn tc,.func (.func 31) #[] #[]] W fun e w'=>e=Qr (G true)∧Below W.heap.size W w')
  (him:∀W,Below w.heap.size w W→Calls QP 32 #[V imp imn imc,.func (.func 33) #[] #[]] W fun e w'=>e=Qr (G true)∧Below W.heap.size W w')
  (hf:∀W,Below w.heap.size w W→Calls QP 34 #[V fp fn fc,.func (.func 35) #[] #[]] W fun e w'=>e=Qr (G true)∧Below W.heap.size W w')
  (htb:∀W,Below w.heap.size w W→Calls QP 36 #[V tbp tbn tbc,.func (.func 37) #[] #[]] W fun e w'=>e=Qr (G true)∧Below W.heap.size W w')
  (hm:∀W,Below w.heap.size w W→Calls QP 38 #[V mp mn mc,.func (.func 39) #[] #[]] W fun e w'=>e=Qr (G true)∧Below W.heap.size W w')
  (hg:∀W,Below w.heap.size w W→Calls QP 40 #[V gp gn gc,.func (.func 41) #[] #[]] W fun e w'=>e=Qr (G true)∧Below W.heap.size W w')
  (hx:∀W,Below w.heap.size w W→Calls QP 42 #[V xp xn xc,.func (.func 43) #[] #[]] W fun e w'=>e=Qr (G true)∧Below W.heap.size W w')
  (hs:∀W,Calls QP 44 #[I J st] W fun e w'=>e=Qr (G true)∧W=w')
  (he:∀W,Below w.heap.size w W→Calls QP 45 #[V ep en ec,.func (.func 46) #[] #[]] W fun e w'=>e=Qr (G true)∧Below W.heap.size W w')
  (hd:∀W,Below w.heap.size w W→Calls QP 47 #[V dp dn dc,.func (.func 48) #[] #[]] W fun e w'=>e=Qr (G true)∧Below W.heap.size W w')
  (hq:∀W,Below w.heap.size w W→Calls QP 34 #[V fp fn fc,.func (.func 49) #[] #[]] W fun e w'=>e=Qr (G qb)∧Below W.heap.size W w') :
  Calls QP 15 #[.agg #[V tp tn tc,V imp imn imc,V fp fn fc,V tbp tbn tbc,V mp mn mc,V gp gn gc,V xp xn xc,I J st,V ep en ec,V dp dn dc,G false]] w fun e w'=>e=Qr (G qb)∧Below w.heap.size w w':=by
 have Ht:=fun W h=>hid (ht W h)
 have Him:=fun W h=>hid (him W h)
 have Hf:=fun W h=>hid (hf W h)
 have Htb:=fun W h=>hid (htb W h)
 have Hm:=fun W h=>hid (hm W h)
 have Hg:=fun W h=>hid (hg W h)
 have Hx:=fun W h=>hid (hx W h)
 have HS:=fun W=>hid (hs W)
 have He:=fun W h=>hid (he W h)
 have Hd:=fun W h=>hid (hd W h)
 have HQ:=fun W h=>hid (hq W h)
 have HBX:=hid ((QB w.heap.size w).alloc (Ql _) (Qc #[V tp tn tc,V imp imn imc,V fp fn fc,V tbp tbn tbc,V mp mn mc,V gp gn gc,V xp xn xc,I J st,V ep en ec,V dp dn dc,G false] 32))
 have HX:=hid (CA.new w #[V tp tn tc,V imp imn imc,V fp fn fc,V tbp tbn tbc,V mp mn mc,V gp gn gc,V xp xn xc,I J st,V ep en ec,V dp dn dc,G false] 32)
 obtain ⟨x0,x1,x2,x3,x4,x5,x6,x7,x8,x9,x10⟩:=ca11 HX.out
 clear ht him hf htb hm hg hx hs he hd hq
 go_enter Tryz.func15,Tryz.ntmps15
 go_wp2_with (first
  |(go_at_call 30;(with_reducible refine (Ht _ HBX.out).out.mono ?_);rintro e w10 ⟨rfl,hb⟩;have HB0:=Qd HBX hb;have HX0:=Qe HX hb;clear x0 x1 x2 x3 x4 x5 x6 x7 x8 x9 x10;obtain ⟨x0,x1,x2,x3,x4,x5,x6,x7,x8,x9,x10⟩:=ca11 HX0.out;clear hb)
  |(go_at_call 32;(with_reducible refine (Him _ HB0.out).out.mono ?_);rintro e w11 ⟨rfl,hb⟩;have HB1:=Qd HB0 hb;have HX1:=Qe HX0 hb;clear x0 x1 x2 x3 x4 x5 x6 x7 x8 x9 x10;obtain ⟨x0,x1,x2,x3,x4,x5,x6,x7,x8,x9,x10⟩:=ca11 HX1.out;clear hb)
  |(go_at_call 34;(with_reducible refine (Hf _ HB1.out).out.mono ?_);rintro e w12 ⟨rfl,hb⟩;have HB2:=Qd HB1 hb;have HX2:=Qe HX1 hb;clear x0 x1 x2 x3 x4 x5 x6 x7 x8 x9 x10;obtain ⟨x0,x1,x2,x3,x4,x5,x6,x7,x8,x9,x10⟩:=ca11 HX2.out;clear hb)
  |(go_at_call 36;(with_reducible refine (Htb _ HB2.out).out.mono ?_);rintro e w13 ⟨rfl,hb⟩;have HB3:=Qd HB2 hb;have HX3:=Qe HX2 hb;clear x0 x1 x2 x3 x4 x5 x6 x7 x8 x9 x10;obtain ⟨x0,x1,x2,x3,x4,x5,x6,x7,x8,x9,x10⟩:=ca11 HX3.out;clear hb)
  |(go_at_call 38;(with_reducible refine (Hm _ HB3.out).out.mono ?_);rintro e w14 ⟨rfl,hb⟩;have HB4:=Qd HB3 hb;have HX4:=Qe HX3 hb;clear x0 x1 x2 x3 x4 x5 x6 x7 x8 x9 x10;obtain ⟨x0,x1,x2,x3,x4,x5,x6,x7,x8,x9,x10⟩:=ca11 HX4.out;clear hb)
  |(go_at_call 40;(with_reducible refine (Hg _ HB4.out).out.mono ?_);rintro e w15 ⟨rfl,hb⟩;have HB5:=Qd HB4 hb;have HX5:=Qe HX4 hb;clear x0 x1 x2 x3 x4 x5 x6 x7 x8 x9 x10;obtain ⟨x0,x1,x2,x3,x4,x5,x6,x7,x8,x9,x10⟩:=ca11 HX5.out;clear hb)
  |(go_at_call 42;(with_reducible refine (Hx _ HB5.out).out.mono ?_);rintro e w16 ⟨rfl,hb⟩;have HB6:=Qd HB5 hb;have HX6:=Qe HX5 hb;clear x0 x1 x2 x3 x4 x5 x6 x7 x8 x9 x10;obtain ⟨x0,x1,x2,x3,x4,x5,x6,x7,x8,x9,x10⟩:=ca11 HX6.out;clear hb)
  |(go_at_call 44;(with_reducible refine (HS _).out.mono ?_);rintro e w5 ⟨rfl,rfl⟩)
  |(go_at_call 45;(with_reducible refine (He _ HB6.out).out.mono ?_);rintro e w18 ⟨rfl,hb⟩;have HB8:=Qd HB6 hb;have HX8:=Qe HX6 hb;clear x0 x1 x2 x3 x4 x5 x6 x7 x8 x9 x10;obtain ⟨x0,x1,x2,x3,x4,x5,x6,x7,x8,x9,x10⟩:=ca11 HX8.out;clear hb)
  |(go_at_call 47;(with_reducible refine (Hd _ HB8.out).out.mono ?_);rintro e w19 ⟨rfl,hb⟩;have HB9:=Qd HB8 hb;have HX9:=Qe HX8 hb;clear x0 x1 x2 x3 x4 x5 x6 x7 x8 x9 x10;obtain ⟨x0,x1,x2,x3,x4,x5,x6,x7,x8,x9,x10⟩:=ca11 HX9.out;clear hb)
  |(go_at_call 34;(with_reducible refine (HQ _ HB9.out).out.mono ?_);rintro e w30 ⟨rfl,hb⟩;have HBQ:=Qd HB9 hb;clear hb))
 go_ret
 exact ⟨rfl,HBQ.out⟩
theorem MayG_says (tp imp fp tbp mp gp xp ep dp:Option Addr) (tn tc imn imc fn fc tbn tbc mn mc gn gc xn xc en ec dn dc:Nat) (tb imb fb tbb mb gb xb sb eb db qb cnt:Bool) (st:Int) (w:World)
  (ht:∀W,Below w.heap.size w W→Calls QP 30 #[V tp tn tc,.func (.func 31) #[] #[]] W fun e w'=>e=Qr (G tb)∧Below W.heap.size W w')
  (him:∀W,Below w.heap.size w W→Calls QP 32 #[V imp imn imc,.func (.func 33) #[] #[]] W fun e w'=>e=Qr (G imb)∧Below W.heap.size W w')
  (hf:∀W,Below w.heap.size w W→Calls QP 34 #[V fp fn fc,.func (.func 35) #[] #[]] W fun e w'=>e=Qr (G fb)∧Below W.heap.size W w')
  (htb:∀W,Below w.heap.size w W→Calls QP 36 #[V tbp tbn tbc,.func (.func 37) #[] #[]] W fun e w'=>e=Qr (G tbb)∧Below W.heap.size W w')
  (hm:∀W,Below w.heap.size w W→Calls QP 38 #[V mp mn mc,.func (.func 39) #[] #[]] W fun e w'=>e=Qr (G mb)∧Below W.heap.size W w')
  (hg:∀W,Below w.heap.size w W→Calls QP 40 #[V gp gn gc,.func (.func 41) #[] #[]] W fun e w'=>e=Qr (G gb)∧Below W.heap.size W w')
  (hx:∀W,Below w.heap.size w W→Calls QP 42 #[V xp xn xc,.func (.func 43) #[] #[]] W fun e w'=>e=Qr (G xb)∧Below W.heap.size W w')
  (hs:∀W,Calls QP 44 #[I J st] W fun e w'=>e=Qr (G sb)∧W=w')
  (he:∀W,Below w.heap.size w W→Calls QP 45 #[V ep en ec,.func (.func 46) #[] #[]] W fun e w'=>e=Qr (G eb)∧Below W.heap.size W w')
  (hd:∀W,Below w.heap.size w W→Calls QP 47 #[V dp dn dc,.func (.func 48) #[] #[]] W fun e w'=>e=Qr (G db)∧Below W.heap.size W w')
  (hq:∀W,Below w.heap.size w W→Calls QP 34 #[V fp fn fc,.func (.func 49) #[] #[]] W fun e w'=>e=Qr (G qb)∧Below W.heap.size W w') :
  Calls QP 15 #[.agg #[V tp tn tc,V imp imn imc,V fp fn fc,V tbp tbn tbc,V mp mn mc,V gp gn gc,V xp xn xc,I J st,V ep en ec,V dp dn dc,G cnt]] w fun e w'=>e=Qr (G (tb&&imb&&fb&&tbb&&mb&&gb&&xb&&sb&&eb&&db&&(cnt||qb)))∧Below w.heap.size w w':=by
 cases tb with
 |false =>
  have:=MayG_0 tp imp fp tbp mp gp xp ep dp tn tc imn imc fn fc tbn tbc mn mc gn gc xn xc en ec dn dc true imb fb tbb mb gb xb sb eb db qb cnt st w ht him hf htb hm hg hx hs he hd hq
  simpa using this
 |true =>
  cases imb with
  |false =>
   have:=MayG_1 tp imp fp tbp mp gp xp ep dp tn tc imn imc fn fc tbn tbc mn mc gn gc xn xc en ec dn dc true true fb tbb mb gb xb sb eb db qb cnt st w ht him hf htb hm hg hx hs he hd hq
   simpa using this
  |true =>
   cases fb with
   |false =>
    have:=MayG_2 tp imp fp tbp mp gp xp ep dp tn tc imn imc fn fc tbn tbc mn mc gn gc xn xc en ec dn dc true true true tbb mb gb xb sb eb db qb cnt st w ht him hf htb hm hg hx hs he hd hq
    simpa using this
   |true =>
    cases tbb with
    |false =>
     have:=MayG_3 tp imp fp tbp mp gp xp ep dp tn tc imn imc fn fc tbn tbc mn mc gn gc xn xc en ec dn dc true true true true mb gb xb sb eb db qb cnt st w ht him hf htb hm hg hx hs he hd hq
     simpa using this
    |true =>
     cases mb with
     |false =>
      have:=MayG_4 tp imp fp tbp mp gp xp ep dp tn tc imn imc fn fc tbn tbc mn mc gn gc xn xc en ec dn dc true true true true true gb xb sb eb db qb cnt st w ht him hf htb hm hg hx hs he hd hq
      simpa using this
     |true =>
      cases gb with
      |false =>
       have:=MayG_5 tp imp fp tbp mp gp xp ep dp tn tc imn imc fn fc tbn tbc mn mc gn gc xn xc en ec dn dc true true true true true true xb sb eb db qb cnt st w ht him hf htb hm hg hx hs he hd hq
       simpa using this
      |true =>
       cases xb with
       |false =>
        have:=MayG_6 tp imp fp tbp mp gp xp ep dp tn tc imn imc fn fc tbn tbc mn mc gn gc xn xc en ec dn dc true true true true true true true sb eb db qb cnt st w ht him hf htb hm hg hx hs he hd hq
        simpa using this
       |true =>
        cases sb with
        |false =>
         have:=MayG_7 tp imp fp tbp mp gp xp ep dp tn tc imn imc fn fc tbn tbc mn mc gn gc xn xc en ec dn dc true true true true true true true true eb db qb cnt st w ht him hf htb hm hg hx hs he hd hq
         simpa using this
        |true =>
         cases eb with
         |false =>
          have:=MayG_8 tp imp fp tbp mp gp xp ep dp tn tc imn imc fn fc tbn tbc mn mc gn gc xn xc en ec dn dc true true true true true true true true true db qb cnt st w ht him hf htb hm hg hx hs he hd hq
          simpa using this
         |true =>
          cases db with
          |false =>
           have:=MayG_9 tp imp fp tbp mp gp xp ep dp tn tc imn imc fn fc tbn tbc mn mc gn gc xn xc en ec dn dc true true true true true true true true true true qb cnt st w ht him hf htb hm hg hx hs he hd hq
           simpa using this
          |true =>
           cases cnt with
           |true =>
            have:=MayG_10 tp imp fp tbp mp gp xp ep dp tn tc imn imc fn fc tbn tbc mn mc gn gc xn xc en ec dn dc true true true true true true true true true true qb true st w ht him hf htb hm hg hx hs he hd hq
            simpa using this
           |false =>
            have:=MayG_11 tp imp fp tbp mp gp xp ep dp tn tc imn imc fn fc tbn tbc mn mc gn gc xn xc en ec dn dc true true true true true true true true true true qb false st w ht him hf htb hm hg hx hs he hd hq
            simpa using this
theorem isFT_says (l1 l2:List Int) (p1 p2:Option Addr) (c1 c2 B:Nat) (w:World) (hB:B≤w.heap.size) (h1:LI B w (V p1 l1.length c1) l1) (h2:LI B w (V p2 l2.length c2) l2) :
  Calls QP 31 #[.agg #[V p1 l1.length c1,V p2 l2.length c2]] w fun e w'=>e=Qr (G (l1.all valB&&l2.all valB))∧Below w.heap.size w w':=by
 have hq1:l1.length<9223372036854775807:=by obtain ⟨_,_,_,h,_⟩:=h1;exact h
 have hq2:l2.length<9223372036854775807:=by obtain ⟨_,_,_,h,_⟩:=h2;exact h
 have H1:=fun W (hW:Below B w W)=>hid (all_int 144 (fun _ _=>rfl) valB isVal_says l1 (V p1 l1.length c1) B W (h1.below hW) (Qk hB hW.size) hq1)
 have H2:=fun W (hW:Below B w W)=>hid (all_int 144 (fun _ _=>rfl) valB isVal_says l2 (V p2 l2.length c2) B W (h2.below hW) (Qk hB hW.size) hq2)
 generalize l1.all valB=b1 at *
 generalize l2.all valB=b2 at *
 generalize l1.length=n1 at *
 generalize l2.length=n2 at *
 have HBX:=hid ((QB w.heap.size w).alloc (Ql _) (Qc #[V p1 n1 c1,V p2 n2 c2] 67))
 have HBY:=hid (HBX.out.mono hB)
 clear h1 h2 hq1 hq2 hB
 cases b1
 all_goals
  go_enter Tryz.func31,Tryz.ntmps31
  go_wp2_with (first
   |(go_at_call 143;(with_reducible refine (H1 _ HBY.out).out.mono ?_);rintro e w3 ⟨rfl,rfl⟩)
   |(go_at_call 143;(with_reducible refine (H2 _ HBY.out).out.mono ?_);rintro e w3 ⟨rfl,rfl⟩))
  go_ret
  exact ⟨by simp,HBX.out⟩
theorem isFunc_says (t:Int) (l:List Int) (f:Fo) (p1 p2:Option Addr) (c1 c2 B:Nat) (w:World) (hn:f.cnt<9223372036854775806) (hB:B≤w.heap.size) (h1:LI B w (V p1 l.length c1) l) (h2:SA B w (V p2 f.len c2) f) :
  Calls QP 35 #[.agg #[I J t,V p1 l.length c1,V p2 f.len c2]] w fun e w'=>e=Qr (G (idxB t&&decide ((l.length:Int)≤50000)&&l.all valB&&codeB f))∧Below w.heap.size w w':=by
 have hq1:l.length<9223372036854775807:=by obtain ⟨_,_,_,h,_⟩:=h1;exact h
 have HT:=fun W=>hid (isIndex_says t W)
 have H1:=fun W (hW:Below B w W)=>hid (all_int 144 (fun _ _=>rfl) valB isVal_says l (V p1 l.length c1) B W (h1.below hW) (Qk hB hW.size) hq1)
 have H2:=fun W (hW:Below B w W)=>hid (isCode_says f (V p2 f.len c2) B W hn (Qk hB hW.size) (SA.below h2 hW))
 generalize l.all valB=b3 at *
 generalize codeB f=b4 at *
 generalize idxB t=b1 at *
 obtain ⟨n1,hn1⟩:∃x,x=l.length:=⟨_,rfl⟩
 rw[←hn1]at H1 ⊢
 generalize f.len=n2 at *
 obtain ⟨b2,d2⟩:∃x,decide ((n1:Int)≤50000)=x:=⟨_,rfl⟩
 rw[d2]
 have HBX:=hid ((QB w.heap.size w).alloc (Ql _) (Qc #[I J t,V p1 n1 c1,V p2 n2 c2] 42))
 have HBY:=hid (HBX.out.mono hB)
 clear h1 h2 hq1 hB hn hn1
 rcases (show b1=false∨(b1=true∧b2=false)∨(b1=true∧b2=true∧b3=false)∨(b1=true∧b2=true∧b3=true) by cases b1<;>cases b2<;>cases b3<;>simp) with rfl|⟨rfl,rfl⟩|⟨rfl,rfl,rfl⟩|⟨rfl,rfl,rfl⟩
 ·go_enter Tryz.func35,Tryz.ntmps35
  go_wp2_with (first
   |(go_at_call 145;(with_reducible refine (HT _).out.mono ?_);rintro e w3 ⟨rfl,rfl⟩)
   |(go_at_call 143;(with_reducible refine (H1 _ HBY.out).out.mono ?_);rintro e w3 ⟨rfl,rfl⟩)
   |(go_at_call 148;(with_reducible refine (H2 _ HBY.out).out.mono ?_);rintro e w4 ⟨rfl,hb4⟩;have HB4:=Qd HBX hb4;clear hb4))
  go_ret
  exact ⟨by simp,HBX.out⟩
 ·go_enter Tryz.func35,Tryz.ntmps35
  go_wp2_with (first
   |(go_at_call 145;(with_reducible refine (HT _).out.mono ?_);rintro e w3 ⟨rfl,rfl⟩)
   |(go_at_call 143;(with_reducible refine (H1 _ HBY.out).out.mono ?_);rintro e w3 ⟨rfl,rfl⟩)
   |(go_at_call 148;(with_reducible refine (H2 _ HBY.out).out.mono ?_);rintro e w4 ⟨rfl,hb4⟩;have HB4:=Qd HBX hb4;clear hb4))
  go_ret
  exact ⟨by simp,HBX.out⟩
 ·go_enter Tryz.func35,Tryz.ntmps35
  go_wp2_with (first
   |(go_at_call 145;(with_reducible refine (HT _).out.mono ?_);rintro e w3 ⟨rfl,rfl⟩)
   |(go_at_call 143;(with_reducible refine (H1 _ HBY.out).out.mono ?_);rintro e w3 ⟨rfl,rfl⟩)
   |(go_at_call 148;(with_reducible refine (H2 _ HBY.out).out.mono ?_);rintro e w4 ⟨rfl,hb4⟩;have HB4:=Qd HBX hb4;clear hb4))
  go_ret
  exact ⟨by simp,HBX.out⟩
 go_enter Tryz.func35,Tryz.ntmps35
 go_wp2_with (first
  |(go_at_call 145;(with_reducible refine (HT _).out.mono ?_);rintro e w3 ⟨rfl,rfl⟩)
  |(go_at_call 143;(with_reducible refine (H1 _ HBY.out).out.mono ?_);rintro e w3 ⟨rfl,rfl⟩)
  |(go_at_call 148;(with_reducible refine (H2 _ HBY.out).out.mono ?_);rintro e w4 ⟨rfl,hb4⟩;have HB4:=Qd HBX hb4;clear hb4))
 go_ret
 exact ⟨by simp,HB4.out⟩
theorem isDataless_says (t:Int) (f:Fo) (p1 p2:Option Addr) (n1 c1 c2 B:Nat) (w:World) (hn:f.cnt<9223372036854775806) (hB:B≤w.heap.size) (h2:SA B w (V p2 f.len c2) f) :
  Calls QP 49 #[.agg #[I J t,V p1 n1 c1,V p2 f.len c2]] w fun e w'=>e=Qr (G (dataB f))∧Below w.heap.size w w':=by
 have H:=fun W (hW:Below B w W)=>hid (every_says 151 #[] (fun _ _=>rfl) (fun (_:Unit) _=>True) dataSt B none (fun k e=>by cases e) (fun _ _ _ _ _=>trivial) (asks_data B) f () (V p2 f.len c2) W hn (Qk hB hW.size) (fun k e=>by cases e) (SA.below h2 hW) trivial)
 unfold dataB
 generalize (evF dataSt f 1 ()).1=r at *
 generalize f.len=n2 at *
 have HBX:=hid ((QB w.heap.size w).alloc (Ql _) (Qc #[I J t,V p1 n1 c1,V p2 n2 c2] 42))
 have HBY:=hid (HBX.out.mono hB)
 clear h2 hn hB
 go_enter Tryz.func49,Tryz.ntmps49
 go_wp2_with (go_at_call 140;(with_reducible refine (H _ HBY.out).out.mono ?_);rintro e w1 ⟨rfl,_,hk1⟩;have HB1:=hid (HBX.out.trans (hk1.pure.mono HBX.out.size));clear hk1)
 go_ret
 exact ⟨rfl,HB1.out⟩
theorem all_var (k:Nat) (eg:∀args w,(callFunc k args).run QP w=.ok (.enter k args) w) (P:Nat→Bool) (n g o c:Nat) (t0:Nat→Int) (u1:Nat→Bool) (p2:Nat→Option Addr) (n2 c2:Nat→Nat) (w:World) (hg:n≠0→g<w.heap.size) (hn:n<9223372036854775807) (ad:Option Addr) (had:n≠0→ad=some ⟨g,o,none⟩)
  (hx:∀i,i<n→w.cell? ⟨g,o+i*3,none⟩=some (I J (t0 i))∧w.cell? ⟨g,o+i*3+1,none⟩=some (G (u1 i))∧w.cell? ⟨g,o+i*3+2,none⟩=some (V (p2 i) (n2 i) (c2 i))) (hP:∀i,i<n→∀W,Below w.heap.size w W→Calls QP k #[.agg #[I J (t0 i),G (u1 i),V (p2 i) (n2 i) (c2 i)]] W fun e w'=>e=Qr (G (P i))∧Below W.heap.size W w') :
  Calls QP 40 #[V ad n c,.func (.func k) #[] #[]] w fun e w'=>e=Qr (G ((QR n).all P))∧Below w.heap.size w w':=by
 have HP:=hid hP
 have HXX:=hid hx
 have HG:=hid hg
 have HAD:=hid had
 have hn':(n:Int)<9223372036854775807:=by omega
 obtain ⟨r,hr⟩:∃r,r=(QR n).all P:=⟨_,rfl⟩
 rw[←hr]
 have HR:=hid hr
 clear hP hx hr hn hg had
 go_enter Tryz.func40,Tryz.ntmps40
 go_wp2
 go_loopw [9] (fun vi wr=>∃i:Nat,i≤n∧vi=I J i∧Hid (∀j,j<i→P j=true)∧Hid (Below w.heap.size w wr)) (fun vi _=>n-(intOf vi).toNat)
 case atStart=>exact ⟨0,Qz _,rfl,fun j hj=>absurd hj (Nat.not_lt_zero _),QB _ _⟩
 obtain ⟨i,hi,rfl,HI,HB⟩:=hrel
 by_cases hlt:i<n
 ·obtain ⟨z0_0,z0_1,z0_2⟩:=HXX.out i hlt
  have hg:=HG.out (by omega)
  obtain rfl:=HAD.out (by omega)
  have hPi:=fun W h=>hid (HP.out i hlt W h)
  have x0:=(HB.out.cell (p:=⟨g,o+i*3,none⟩) hg).trans z0_0
  have x1:=(HB.out.cell (p:=⟨g,o+i*3+1,none⟩) hg).trans z0_1
  have x2:=(HB.out.cell (p:=⟨g,o+i*3+2,none⟩) hg).trans z0_2
  clear z0_0 z0_1 z0_2 hg
  obtain ⟨b,hb⟩:∃b,b=P i:=⟨_,rfl⟩
  rw[←hb]at hPi
  have HBP:=hid hb
  clear hb
  generalize t0 i=s0 at *
  generalize u1 i=e1 at *
  generalize p2 i=q2 at *
  generalize n2 i=m2 at *
  generalize c2 i=d2 at *
  have HB1:=hid (HB.out.alloc HB.out.size (Qc #[I J s0,G e1,V q2 m2 d2] 46))
  cases b with
  |false =>
   have HE:Hid (r=false):=by
    rw[HR.out]
    exact List.all_eq_false.2 ⟨i,List.mem_range.2 hlt,by rw[←HBP.out];decide⟩
   go_wp2_with (go_at_fn k;(with_reducible refine (hPi _ HB1.out).out.mono ?_);rintro e w2 ⟨rfl,hb2⟩;have HB2:=Qd HB1 hb2;clear hb2)
   go_ret
   exact ⟨by rw[HE.out];rfl,HB2.out⟩
  |true =>
   go_wp2_with (go_at_fn k;(with_reducible refine (hPi _ HB1.out).out.mono ?_);rintro e w2 ⟨rfl,hb2⟩;have HB2:=Qd HB1 hb2;clear hb2)
   go_roundw
   case rel =>
    refine ⟨i+1,hlt,by go_num,fun j hj=>?_,HB2.out⟩
    by_cases hji:j=i
    ·rw[hji];exact HBP.out.symm
    exact HI.out j (by omega)
   case measure=>simp[intOf];omega
 obtain rfl:i=n:=by omega
 have HE:Hid (r=true):=by
  rw[HR.out]
  exact List.all_eq_true.2 fun j hj=>HI.out j (List.mem_range.1 hj)
 go_wp2
 go_ret
 exact ⟨by rw[HE.out];rfl,HB.out⟩
theorem isGlobalType_says (t:Int) (m:Bool) (w:World):Calls QP 146 #[.agg #[I J t,G m]] w fun e w'=>e=Qr (G (valB t))∧Below w.heap.size w w':=by
 have H:=fun W=>hid (isVal_says t W)
 generalize valB t=r at *
 have HBX:=hid ((QB w.heap.size w).alloc (Ql _) (Qc #[I J t,G m] 44))
 go_enter Tryz.func146,Tryz.ntmps146
 go_wp2_with (go_at_call 144;(with_reducible refine (H _).out.mono ?_);rintro e w1 ⟨rfl,rfl⟩)
 go_ret
 exact ⟨rfl,HBX.out⟩
theorem isGlobal_says (t:Int) (m:Bool) (f:Fo) (p:Option Addr) (n c B:Nat) (w:World) (hn:f.cnt<9223372036854775806) (hB:B≤w.heap.size) (hs:SA B w (V p n c) f) :
  Calls QP 41 #[.agg #[I J t,G m,V p n c]] w fun e w'=>e=Qr (G (valB t&&codeB f))∧Below w.heap.size w w':=by
 have HT:=fun W=>hid (isGlobalType_says t m W)
 have HBX:=hid ((QB w.heap.size w).alloc (Ql _) (Qc #[I J t,G m,V p n c] 46))
 have HX:=hid (CA.new w #[I J t,G m,V p n c] 46)
 have HC:=fun W (hW:Below w.heap.size w W)=>hid (isCode_says f (V p n c) B W hn (Qk hB hW.size) (SA.below hs (hW.mono hB)))
 generalize valB t=r at *
 generalize codeB f=q at *
 clear hn hB hs
 cases r with
 |false =>
  go_enter Tryz.func41,Tryz.ntmps41
  go_wp2_with (go_at_call 146;(with_reducible refine (HT _).out.mono ?_);rintro e w1 ⟨rfl,hb⟩;have HB1:=Qd HBX hb;clear hb)
  go_ret
  exact ⟨rfl,HB1.out⟩
 |true =>
  go_enter Tryz.func41,Tryz.ntmps41
  go_wp2_with (first
   |(go_at_call 146;(with_reducible refine (HT _).out.mono ?_);rintro e w1 ⟨rfl,hb⟩;have HB1:=Qd HBX hb;have HX1:=Qe HX hb;have x2:=HX1.out.at (k:=2) (v:=V p n c) rfl;clear hb)
   |(go_at_call 148;(with_reducible refine (HC _ HB1.out).out.mono ?_);rintro e w2 ⟨rfl,hb⟩;have HB2:=Qd HB1 hb;clear hb))
  go_ret
  exact ⟨by simp,HB2.out⟩
theorem all_imp (k:Nat) (eg:∀args w,(callFunc k args).run QP w=.ok (.enter k args) w) (P:Nat→Bool) (n g o c:Nat) (z0:Nat→ByteArray) (z1:Nat→ByteArray) (t2:Nat→Int) (t3:Nat→Int) (t4:Nat→Int) (t5:Nat→Int) (t6:Nat→Int) (ub7:Nat→Bool) (t8:Nat→Int) (t9:Nat→Int) (ub10:Nat→Bool) (t11:Nat→Int) (ub12:Nat→Bool) (w:World) (hg:n≠0→g<w.heap.size) (hn:n<9223372036854775807) (ad:Option Addr) (had:n≠0→ad=some ⟨g,o,none⟩)
  (hx:∀i,i<n→w.cell? ⟨g,o+i*13,none⟩=some (Qs (z0 i))∧w.cell? ⟨g,o+i*13+1,none⟩=some (Qs (z1 i))∧w.cell? ⟨g,o+i*13+2,none⟩=some (I J (t2 i))∧w.cell? ⟨g,o+i*13+3,none⟩=some (I J (t3 i))∧w.cell? ⟨g,o+i*13+4,none⟩=some (I J (t4 i))∧w.cell? ⟨g,o+i*13+5,none⟩=some (I J (t5 i))∧w.cell? ⟨g,o+i*13+6,none⟩=some (I J (t6 i))∧w.cell? ⟨g,o+i*13+7,none⟩=some (G (ub7 i))∧w.cell? ⟨g,o+i*13+8,none⟩=some (I J (t8 i))∧w.cell? ⟨g,o+i*13+9,none⟩=some (I J (t9 i))∧w.cell? ⟨g,o+i*13+10,none⟩=some (G (ub10 i))∧w.cell? ⟨g,o+i*13+11,none⟩=some (I J (t11 i))∧w.cell? ⟨g,o+i*13+12,none⟩=some (G (ub12 i))) (hP:∀i,i<n→∀W,Below w.heap.size w W→Calls QP k #[.agg #[Qs (z0 i),Qs (z1 i),I J (t2 i),I J (t3 i),I J (t4 i),I J (t5 i),I J (t6 i),G (ub7 i),I J (t8 i),I J (t9 i),G (ub10 i),I J (t11 i),G (ub12 i)]] W fun e w'=>e=Qr (G (P i))∧Below W.heap.size W w') :
  Calls QP 32 #[V ad n c,.func (.func k) #[] #[]] w fun e w'=>e=Qr (G ((QR n).all P))∧Below w.heap.size w w':=by
 have HP:=hid hP
 have HXX:=hid hx
 have HG:=hid hg
 have HAD:=hid had
 have hn':(n:Int)<9223372036854775807:=by omega
 obtain ⟨r,hr⟩:∃r,r=(QR n).all P:=⟨_,rfl⟩
 rw[←hr]
 have HR:=hid hr
 clear hP hx hr hn hg had
 go_enter Tryz.func32,Tryz.ntmps32
 go_wp2
 go_loopw [9] (fun vi wr=>∃i:Nat,i≤n∧vi=I J i∧Hid (∀j,j<i→P j=true)∧Hid (Below w.heap.size w wr)) (fun vi _=>n-(intOf vi).toNat)
 case atStart=>exact ⟨0,Qz _,rfl,fun j hj=>absurd hj (Nat.not_lt_zero _),QB _ _⟩
 obtain ⟨i,hi,rfl,HI,HB⟩:=hrel
 by_cases hlt:i<n
 ·obtain ⟨z0_0,z0_1,z0_2,z0_3,z0_4,z0_5,z0_6,z0_7,z0_8,z0_9,z0_10,z0_11,z0_12⟩:=HXX.out i hlt
  have hg:=HG.out (by omega)
  obtain rfl:=HAD.out (by omega)
  have hPi:=fun W h=>hid (HP.out i hlt W h)
  have x0:=(HB.out.cell (p:=⟨g,o+i*13,none⟩) hg).trans z0_0
  have x1:=(HB.out.cell (p:=⟨g,o+i*13+1,none⟩) hg).trans z0_1
  have x2:=(HB.out.cell (p:=⟨g,o+i*13+2,none⟩) hg).trans z0_2
  have x3:=(HB.out.cell (p:=⟨g,o+i*13+3,none⟩) hg).trans z0_3
  have x4:=(HB.out.cell (p:=⟨g,o+i*13+4,none⟩) hg).trans z0_4
  have x5:=(HB.out.cell (p:=⟨g,o+i*13+5,none⟩) hg).trans z0_5
  have x6:=(HB.out.cell (p:=⟨g,o+i*13+6,none⟩) hg).trans z0_6
  have x7:=(HB.out.cell (p:=⟨g,o+i*13+7,none⟩) hg).trans z0_7
  have x8:=(HB.out.cell (p:=⟨g,o+i*13+8,none⟩) hg).trans z0_8
  have x9:=(HB.out.cell (p:=⟨g,o+i*13+9,none⟩) hg).trans z0_9
  have x10:=(HB.out.cell (p:=⟨g,o+i*13+10,none⟩) hg).trans z0_10
  have x11:=(HB.out.cell (p:=⟨g,o+i*13+11,none⟩) hg).trans z0_11
  have x12:=(HB.out.cell (p:=⟨g,o+i*13+12,none⟩) hg).trans z0_12
  clear z0_0 z0_1 z0_2 z0_3 z0_4 z0_5 z0_6 z0_7 z0_8 z0_9 z0_10 z0_11 z0_12 hg
  obtain ⟨b,hb⟩:∃b,b=P i:=⟨_,rfl⟩
  rw[←hb]at hPi
  have HBP:=hid hb
  clear hb
  generalize z0 i=y0 at *
  generalize z1 i=y1 at *
  generalize t2 i=s2 at *
  generalize t3 i=s3 at *
  generalize t4 i=s4 at *
  generalize t5 i=s5 at *
  generalize t6 i=s6 at *
  generalize ub7 i=e7 at *
  generalize t8 i=s8 at *
  generalize t9 i=s9 at *
  generalize ub10 i=e10 at *
  generalize t11 i=s11 at *
  generalize ub12 i=e12 at *
  have HB1:=hid (HB.out.alloc HB.out.size (Qc #[Qs y0,Qs y1,I J s2,I J s3,I J s4,I J s5,I J s6,G e7,I J s8,I J s9,G e10,I J s11,G e12] 74))
  cases b with
  |false =>
   have HE:Hid (r=false):=by
    rw[HR.out]
    exact List.all_eq_false.2 ⟨i,List.mem_range.2 hlt,by rw[←HBP.out];decide⟩
   go_wp2_with (go_at_fn k;(with_reducible refine (hPi _ HB1.out).out.mono ?_);rintro e w2 ⟨rfl,hb2⟩;have HB2:=Qd HB1 hb2;clear hb2)
   go_ret
   exact ⟨by rw[HE.out];rfl,HB2.out⟩
  |true =>
   go_wp2_with (go_at_fn k;(with_reducible refine (hPi _ HB1.out).out.mono ?_);rintro e w2 ⟨rfl,hb2⟩;have HB2:=Qd HB1 hb2;clear hb2)
   go_roundw
   case rel =>
    refine ⟨i+1,hlt,by go_num,fun j hj=>?_,HB2.out⟩
    by_cases hji:j=i
    ·rw[hji];exact HBP.out.symm
    exact HI.out j (by omega)
   case measure=>simp[intOf];omega
 obtain rfl:i=n:=by omega
 have HE:Hid (r=true):=by
  rw[HR.out]
  exact List.all_eq_true.2 fun j hj=>HI.out j (List.mem_range.1 hj)
 go_wp2
 go_ret
 exact ⟨by rw[HE.out];rfl,HB.out⟩
theorem all_exp (k:Nat) (eg:∀args w,(callFunc k args).run QP w=.ok (.enter k args) w) (P:Nat→Bool) (n g o c:Nat) (z0:Nat→ByteArray) (t1:Nat→Int) (t2:Nat→Int) (w:World) (hg:n≠0→g<w.heap.size) (hn:n<9223372036854775807) (ad:Option Addr) (had:n≠0→ad=some ⟨g,o,none⟩)
  (hx:∀i,i<n→w.cell? ⟨g,o+i*3,none⟩=some (Qs (z0 i))∧w.cell? ⟨g,o+i*3+1,none⟩=some (I J (t1 i))∧w.cell? ⟨g,o+i*3+2,none⟩=some (I J (t2 i))) (hP:∀i,i<n→∀W,Below w.heap.size w W→Calls QP k #[.agg #[Qs (z0 i),I J (t1 i),I J (t2 i)]] W fun e w'=>e=Qr (G (P i))∧Below W.heap.size W w') :
  Calls QP 42 #[V ad n c,.func (.func k) #[] #[]] w fun e w'=>e=Qr (G ((QR n).all P))∧Below w.heap.size w w':=by
 have HP:=hid hP
 have HXX:=hid hx
 have HG:=hid hg
 have HAD:=hid had
 have hn':(n:Int)<9223372036854775807:=by omega
 obtain ⟨r,hr⟩:∃r,r=(QR n).all P:=⟨_,rfl⟩
 rw[←hr]
 have HR:=hid hr
 clear hP hx hr hn hg had
 go_enter Tryz.func42,Tryz.ntmps42
 go_wp2
 go_loopw [9] (fun vi wr=>∃i:Nat,i≤n∧vi=I J i∧Hid (∀j,j<i→P j=true)∧Hid (Below w.heap.size w wr)) (fun vi _=>n-(intOf vi).toNat)
 case atStart=>exact ⟨0,Qz _,rfl,fun j hj=>absurd hj (Nat.not_lt_zero _),QB _ _⟩
 obtain ⟨i,hi,rfl,HI,HB⟩:=hrel
 by_cases hlt:i<n
 ·obtain ⟨z0_0,z0_1,z0_2⟩:=HXX.out i hlt
  have hg:=HG.out (by omega)
  obtain rfl:=HAD.out (by omega)
  have hPi:=fun W h=>hid (HP.out i hlt W h)
  have x0:=(HB.out.cell (p:=⟨g,o+i*3,none⟩) hg).trans z0_0
  have x1:=(HB.out.cell (p:=⟨g,o+i*3+1,none⟩) hg).trans z0_1
  have x2:=(HB.out.cell (p:=⟨g,o+i*3+2,none⟩) hg).trans z0_2
  clear z0_0 z0_1 z0_2 hg
  obtain ⟨b,hb⟩:∃b,b=P i:=⟨_,rfl⟩
  rw[←hb]at hPi
  have HBP:=hid hb
  clear hb
  generalize z0 i=y0 at *
  generalize t1 i=s1 at *
  generalize t2 i=s2 at *
  have HB1:=hid (HB.out.alloc HB.out.size (Qc #[Qs y0,I J s1,I J s2] 76))
  cases b with
  |false =>
   have HE:Hid (r=false):=by
    rw[HR.out]
    exact List.all_eq_false.2 ⟨i,List.mem_range.2 hlt,by rw[←HBP.out];decide⟩
   go_wp2_with (go_at_fn k;(with_reducible refine (hPi _ HB1.out).out.mono ?_);rintro e w2 ⟨rfl,hb2⟩;have HB2:=Qd HB1 hb2;clear hb2)
   go_ret
   exact ⟨by rw[HE.out];rfl,HB2.out⟩
  |true =>
   go_wp2_with (go_at_fn k;(with_reducible refine (hPi _ HB1.out).out.mono ?_);rintro e w2 ⟨rfl,hb2⟩;have HB2:=Qd HB1 hb2;clear hb2)
   go_roundw
   case rel =>
    refine ⟨i+1,hlt,by go_num,fun j hj=>?_,HB2.out⟩
    by_cases hji:j=i
    ·rw[hji];exact HBP.out.symm
    exact HI.out j (by omega)
   case measure=>simp[intOf];omega
 obtain rfl:i=n:=by omega
 have HE:Hid (r=true):=by
  rw[HR.out]
  exact List.all_eq_true.2 fun j hj=>HI.out j (List.mem_range.1 hj)
 go_wp2
 go_ret
 exact ⟨by rw[HE.out];rfl,HB.out⟩
end Go.Proofs.YtjgeedgphcjhoaaGreat
