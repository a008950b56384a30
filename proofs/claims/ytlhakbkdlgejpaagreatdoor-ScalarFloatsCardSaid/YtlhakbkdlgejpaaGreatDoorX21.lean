/-
  FRArith: merged, what the laws do not reach left out (each text says what it holds where it lies in wip). No condition.
-/
import Derived.Test.YtlhakbkdlgejpaaGreatDoorX20
import Derived.Test.YtlhakbkdlgejpaaGreatDoorX19
import Derived.Test.YtlhakbkdlgejpaaGreatDoorX01
set_option linter.unusedSimpArgs false
set_option linter.unusedVariables false
set_option maxRecDepth 100000
namespace Go.Proofs.YtlhakbkdlgejpaaGreatDoor.Fl
open Go.RowKit
theorem arith_32_1 (x y:Nat) (h:Ieee.single.add x y=none) (w:World):∃ N:Nat,(binOp .add 164 (.float .f32 x) (.float .f32 y)).run Tryz.prog w=.ok (.float .f32 N) w.drew∧2139095040 < N % 2147483648:=by
 refine ⟨Question.cut (.nanBits .f32 x y) (w.tape w.drawn (.nanBits .f32 x y)),?_,drawn_32 _⟩
 have h':FloatKind.f32.format.add x y=none:=h
 simp [binOp,Op.floatArith,h',run_choose_drew,Question.forced]
set_option maxRecDepth 20000 in
set_option maxHeartbeats 6400000 in
theorem RBn_32_1 (a b c d:Nat) (V U:Nat→Prop) (nx ny:Bool) (hn:nx=true ∨ (nx=false∧ny=true))
  (HCA:∀ W,Hid (Calls Tryz.prog 216 #[.int .i64 32,.int .u64 (a:Int)] W fun e w' => e=.returned (.int .u64 (c:Int))∧W=w'))
  (HCB:∀ W,Hid (Calls Tryz.prog 216 #[.int .i64 32,.int .u64 (b:Int)] W fun e w' => e=.returned (.int .u64 (d:Int))∧W=w'))
  (HVA:∀ W,Hid (Calls Tryz.prog 215 #[.int .i64 32,.int .u64 (c:Int)] W fun e w' => ∃ v:Nat,e=.returned (.float .f64 v)∧V v∧Below W.heap.size W w'))
  (HVB:∀ W,Hid (Calls Tryz.prog 215 #[.int .i64 32,.int .u64 (d:Int)] W fun e w' => ∃ v:Nat,e=.returned (.float .f64 v)∧U v∧Below W.heap.size W w'))
  (HNA:Hid (∀ v,V v→(FloatKind.f64.format.order v v != some .eq)=nx))
  (HNB:Hid (∀ u,U u→(FloatKind.f64.format.order u u != some .eq)=ny)) (w:World) :
  Calls Tryz.prog 148 #[.int .i64 32,.int .i64 1,.int .u64 (a:Int),.int .u64 (b:Int)] w fun e w' => e=.returned (.tuple #[.int .u64 2143289344,.int .i64 0])∧Below w.heap.size w w':=by
 rcases hn with rfl | ⟨rfl,rfl⟩
 all_goals
  go_enter Tryz.func148,Tryz.ntmps148
  go_wp2_with (first
   | (go_at_call 216;((with_reducible refine (HCA _).out.mono ?_);rintro e w1 ⟨rfl,rfl⟩))
   | (go_at_call 216;((with_reducible refine (HCB _).out.mono ?_);rintro e w1 ⟨rfl,rfl⟩))
   | (go_at_call 215;((with_reducible refine (HVA _).out.mono ?_);rintro e w1 ⟨v,rfl,hv,hb1⟩;have t1:=HNA.out v hv))
   | (go_at_call 215;((with_reducible refine (HVB _).out.mono ?_);rintro e w2 ⟨u,rfl,hu,hb2⟩;have t3:=HNB.out u hu))
   | (go_at_call 217;((with_reducible refine (rsign_32 _).mono ?_);rintro e w3 ⟨rfl,rfl⟩))
   | (go_at_call 225;((with_reducible refine (rcan_32 _).mono ?_);rintro e w3 ⟨rfl,rfl⟩)))
  go_ret2
  exact ⟨rfl,bnext hb1 hb2⟩
set_option maxRecDepth 20000 in
set_option maxHeartbeats 6400000 in
theorem RBa_32_1 (a b c d r:Nat) (V U:Nat→Prop) (h:Ieee.single.add c d=some r) (hr:r < 2 * 2147483648∧r % 2147483648≤2139095040)
  (HCA:∀ W,Hid (Calls Tryz.prog 216 #[.int .i64 32,.int .u64 (a:Int)] W fun e w' => e=.returned (.int .u64 (c:Int))∧W=w'))
  (HCB:∀ W,Hid (Calls Tryz.prog 216 #[.int .i64 32,.int .u64 (b:Int)] W fun e w' => e=.returned (.int .u64 (d:Int))∧W=w'))
  (HVA:∀ W,Hid (Calls Tryz.prog 215 #[.int .i64 32,.int .u64 (c:Int)] W fun e w' => ∃ v:Nat,e=.returned (.float .f64 v)∧V v∧Below W.heap.size W w'))
  (HVB:∀ W,Hid (Calls Tryz.prog 215 #[.int .i64 32,.int .u64 (d:Int)] W fun e w' => ∃ v:Nat,e=.returned (.float .f64 v)∧U v∧Below W.heap.size W w'))
  (HNA:Hid (∀ v,V v→(FloatKind.f64.format.order v v != some .eq)=false))
  (HNB:Hid (∀ u,U u→(FloatKind.f64.format.order u u != some .eq)=false))
  (HFA:∀ W,Hid (Calls Tryz.prog 227 #[.int .u64 (c:Int)] W fun e w' => e=.returned (.float .f32 c)∧Below W.heap.size W w'))
  (HFB:∀ W,Hid (Calls Tryz.prog 227 #[.int .u64 (d:Int)] W fun e w' => e=.returned (.float .f32 d)∧Below W.heap.size W w')) (w:World) :
  Calls Tryz.prog 148 #[.int .i64 32,.int .i64 1,.int .u64 (a:Int),.int .u64 (b:Int)] w fun e w' => e=.returned (.tuple #[.int .u64 (r:Int),.int .i64 0])∧Below w.heap.size w w':=by
 have t:∀ W:World,(binOp .add 164 (.float .f32 c) (.float .f32 d)).run Tryz.prog W=.ok (.float .f32 r) W:=fun W => run_float_arith W .add 52 .f32 c d r h
 have HB:=fun W => hid (BB_32 r hr.1 hr.2 W)
 clear h hr
 go_enter Tryz.func148,Tryz.ntmps148
 go_wp2_with (first
   | (go_at_call 216;((with_reducible refine (HCA _).out.mono ?_);rintro e w1 ⟨rfl,rfl⟩))
   | (go_at_call 216;((with_reducible refine (HCB _).out.mono ?_);rintro e w1 ⟨rfl,rfl⟩))
   | (go_at_call 215;((with_reducible refine (HVA _).out.mono ?_);rintro e w1 ⟨v,rfl,hv,hb1⟩;have t1:=HNA.out v hv))
   | (go_at_call 215;((with_reducible refine (HVB _).out.mono ?_);rintro e w2 ⟨u,rfl,hu,hb2⟩;have t3:=HNB.out u hu))
   | (go_at_call 217;((with_reducible refine (rsign_32 _).mono ?_);rintro e w3 ⟨rfl,rfl⟩))
   | (go_at_call 225;((with_reducible refine (rcan_32 _).mono ?_);rintro e w3 ⟨rfl,rfl⟩))
   | (go_at_call 227;((with_reducible refine (HFA _).out.mono ?_);rintro e w4 ⟨rfl,hb4⟩))
   | (go_at_call 227;((with_reducible refine (HFB _).out.mono ?_);rintro e w5 ⟨rfl,hb5⟩))
   | (go_at_call 223;((with_reducible refine (HB _).out.mono ?_);rintro e w6 ⟨rfl,rfl⟩)))
 go_ret2
 exact ⟨rfl,bnext (bnext (bnext hb1 hb2) hb4) hb5⟩
set_option maxRecDepth 20000 in
set_option maxHeartbeats 6400000 in
theorem RBz_32_1 (a b c d:Nat) (V U:Nat→Prop) (h:Ieee.single.add c d=none)
  (HCA:∀ W,Hid (Calls Tryz.prog 216 #[.int .i64 32,.int .u64 (a:Int)] W fun e w' => e=.returned (.int .u64 (c:Int))∧W=w'))
  (HCB:∀ W,Hid (Calls Tryz.prog 216 #[.int .i64 32,.int .u64 (b:Int)] W fun e w' => e=.returned (.int .u64 (d:Int))∧W=w'))
  (HVA:∀ W,Hid (Calls Tryz.prog 215 #[.int .i64 32,.int .u64 (c:Int)] W fun e w' => ∃ v:Nat,e=.returned (.float .f64 v)∧V v∧Below W.heap.size W w'))
  (HVB:∀ W,Hid (Calls Tryz.prog 215 #[.int .i64 32,.int .u64 (d:Int)] W fun e w' => ∃ v:Nat,e=.returned (.float .f64 v)∧U v∧Below W.heap.size W w'))
  (HNA:Hid (∀ v,V v→(FloatKind.f64.format.order v v != some .eq)=false))
  (HNB:Hid (∀ u,U u→(FloatKind.f64.format.order u u != some .eq)=false))
  (HFA:∀ W,Hid (Calls Tryz.prog 227 #[.int .u64 (c:Int)] W fun e w' => e=.returned (.float .f32 c)∧Below W.heap.size W w'))
  (HFB:∀ W,Hid (Calls Tryz.prog 227 #[.int .u64 (d:Int)] W fun e w' => e=.returned (.float .f32 d)∧Below W.heap.size W w')) (w:World) :
  Calls Tryz.prog 148 #[.int .i64 32,.int .i64 1,.int .u64 (a:Int),.int .u64 (b:Int)] w fun e w' => e=.returned (.tuple #[.int .u64 2143289344,.int .i64 0])∧Below w.heap.size w w':=by
 have HNN:=hid (arith_32_1 c d h)
 have HB:=hid BB_32_nan
 clear h
 go_enter Tryz.func148,Tryz.ntmps148
 go_wp2_with (first
   | (go_at_call 216;((with_reducible refine (HCA _).out.mono ?_);rintro e w1 ⟨rfl,rfl⟩))
   | (go_at_call 216;((with_reducible refine (HCB _).out.mono ?_);rintro e w1 ⟨rfl,rfl⟩))
   | (go_at_call 215;((with_reducible refine (HVA _).out.mono ?_);rintro e w1 ⟨v,rfl,hv,hb1⟩;have t1:=HNA.out v hv))
   | (go_at_call 215;((with_reducible refine (HVB _).out.mono ?_);rintro e w2 ⟨u,rfl,hu,hb2⟩;have t3:=HNB.out u hu))
   | (go_at_call 217;((with_reducible refine (rsign_32 _).mono ?_);rintro e w3 ⟨rfl,rfl⟩))
   | (go_at_call 225;((with_reducible refine (rcan_32 _).mono ?_);rintro e w3 ⟨rfl,rfl⟩))
   | (go_at_call 227;((with_reducible refine (HFA _).out.mono ?_);rintro e w4 ⟨rfl,hb4⟩))
   | (go_at_call 227;((with_reducible refine (HFB _).out.mono ?_);rintro e w5 ⟨rfl,hb5⟩;obtain ⟨N,hN1,hN2⟩:=HNN.out w5;have HN:=hid hN2;clear hN2))
   | (go_at_call 223;((with_reducible refine (HB.out _ HN.out _).mono ?_);rintro e w6 ⟨rfl,rfl⟩)))
 go_ret2
 exact ⟨rfl,(bnext (bnext (bnext hb1 hb2) hb4) hb5).drew⟩
theorem RBin_32_1 (a b:Nat) (ha:a < 18446744073709551616) (hb:b < 18446744073709551616) (w:World) :
  Calls Tryz.prog 148 #[.int .i64 32,.int .i64 1,.int .u64 (a:Int),.int .u64 (b:Int)] w fun e w' => e=.returned (.tuple #[.int .u64 ((binW Ieee.single 38 2147483648 2139095040 2143289344 23 (-149) 1 (a % 4294967296) (b % 4294967296):Nat):Int),.int .i64 0])∧Below w.heap.size w w':=by
 have HCA:=fun W => hid (rcut_32 a  W)
 have HCB:=fun W => hid (rcut_32 b  W)
 have hc:a % 4294967296 < 2 * 2147483648:=by omega
 have hd:b % 4294967296 < 2 * 2147483648:=by omega
 generalize a % 4294967296=c at *
 generalize b % 4294967296=d at *
 have HVA:∀ W,Hid (Calls Tryz.prog 215 #[.int .i64 32,.int .u64 (c:Int)] W (VPost 2147483648 2139095040 c W)):=fun W => hid (by have:=value_32 c W;rw [Nat.mod_eq_of_lt (show c < 4294967296 from hc)] at this;exact this)
 have HVB:∀ W,Hid (Calls Tryz.prog 215 #[.int .i64 32,.int .u64 (d:Int)] W (VPost 2147483648 2139095040 d W)):=fun W => hid (by have:=value_32 d W;rw [Nat.mod_eq_of_lt (show d < 4294967296 from hd)] at this;exact this)
 have HNA:Hid (∀ v,ValOf 2147483648 2139095040 c v→(FloatKind.f64.format.order v v != some .eq)=decide (2139095040 < c % 2147483648)):=hid fun v hv => val_ne hc hv
 have HNB:Hid (∀ v,ValOf 2147483648 2139095040 d v→(FloatKind.f64.format.order v v != some .eq)=decide (2139095040 < d % 2147483648)):=hid fun v hv => val_ne hd hv
 by_cases hn:2139095040 < c % 2147483648 ∨ 2139095040 < d % 2147483648
 ·have hres:binW Ieee.single 38 2147483648 2139095040 2143289344 23 (-149) 1 c d=2143289344:=by unfold binW;rw [if_pos ⟨by decide,show nanW 2147483648 2139095040 c d=true from decide_eq_true hn⟩]
  rw [hres]
  refine RBn_32_1 a b c d _ _ _ _ ?_ HCA HCB HVA HVB HNA HNB w
  by_cases h1:2139095040 < c % 2147483648
  ·exact .inl (decide_eq_true h1)
  ·exact .inr ⟨decide_eq_false h1,decide_eq_true (by omega)⟩
 have hres:binW Ieee.single 38 2147483648 2139095040 2143289344 23 (-149) 1 c d=(Ieee.single.add c d).getD 2143289344:=by
  unfold binW
  rw [if_neg (by rintro ⟨_,h⟩;exact hn (of_decide_eq_true h)),if_pos rfl]
  exact sumW_add fmt_single 38 2143289344 (by decide) hc hd (by omega) (by omega)
 rw [hres]
 rw [decide_eq_false (show ¬ 2139095040 < c % 2147483648 by omega)] at HNA
 rw [decide_eq_false (show ¬ 2139095040 < d % 2147483648 by omega)] at HNB
 have HFA:∀ W,Hid (Calls Tryz.prog 227 #[.int .u64 (c:Int)] W fun e w' => e=.returned (.float .f32 c)∧Below W.heap.size W w'):=fun W => hid ((F32_any c W).mono fun e w' ⟨h1,h2⟩ => ⟨by rw [h1,Nat.mod_eq_of_lt (show c < 4294967296 from hc)],by rw [← h2];exact Below.refl _ _⟩)
 have HFB:∀ W,Hid (Calls Tryz.prog 227 #[.int .u64 (d:Int)] W fun e w' => e=.returned (.float .f32 d)∧Below W.heap.size W w'):=fun W => hid ((F32_any d W).mono fun e w' ⟨h1,h2⟩ => ⟨by rw [h1,Nat.mod_eq_of_lt (show d < 4294967296 from hd)],by rw [← h2];exact Below.refl _ _⟩)
 cases h:Ieee.single.add c d with
 | none =>
  exact RBz_32_1 a b c d _ _ h HCA HCB HVA HVB HNA HNB HFA HFB w
 | some r =>
  have hr:r < 2 * 2147483648∧r % 2147483648≤2139095040:=by
   have h':=h
   unfold Ieee.Format.add at h'
   obtain ⟨D,hD,rfl⟩:=Option.map_eq_some_iff.1 h'
   exact write_fin fmt_single D (sum_notNaN _ _ _ hD)
  exact RBa_32_1 a b c d r _ _ h hr HCA HCB HVA HVB HNA HNB HFA HFB w
theorem arith_32_2 (x y:Nat) (h:Ieee.single.sub x y=none) (w:World):∃ N:Nat,(binOp .sub 164 (.float .f32 x) (.float .f32 y)).run Tryz.prog w=.ok (.float .f32 N) w.drew∧2139095040 < N % 2147483648:=by
 refine ⟨Question.cut (.nanBits .f32 x y) (w.tape w.drawn (.nanBits .f32 x y)),?_,drawn_32 _⟩
 have h':FloatKind.f32.format.sub x y=none:=h
 simp [binOp,Op.floatArith,h',run_choose_drew,Question.forced]
set_option maxRecDepth 20000 in
set_option maxHeartbeats 6400000 in
theorem RBn_32_2 (a b c d:Nat) (V U:Nat→Prop) (nx ny:Bool) (hn:nx=true ∨ (nx=false∧ny=true))
  (HCA:∀ W,Hid (Calls Tryz.prog 216 #[.int .i64 32,.int .u64 (a:Int)] W fun e w' => e=.returned (.int .u64 (c:Int))∧W=w'))
  (HCB:∀ W,Hid (Calls Tryz.prog 216 #[.int .i64 32,.int .u64 (b:Int)] W fun e w' => e=.returned (.int .u64 (d:Int))∧W=w'))
  (HVA:∀ W,Hid (Calls Tryz.prog 215 #[.int .i64 32,.int .u64 (c:Int)] W fun e w' => ∃ v:Nat,e=.returned (.float .f64 v)∧V v∧Below W.heap.size W w'))
  (HVB:∀ W,Hid (Calls Tryz.prog 215 #[.int .i64 32,.int .u64 (d:Int)] W fun e w' => ∃ v:Nat,e=.returned (.float .f64 v)∧U v∧Below W.heap.size W w'))
  (HNA:Hid (∀ v,V v→(FloatKind.f64.format.order v v != some .eq)=nx))
  (HNB:Hid (∀ u,U u→(FloatKind.f64.format.order u u != some .eq)=ny)) (w:World) :
  Calls Tryz.prog 148 #[.int .i64 32,.int .i64 2,.int .u64 (a:Int),.int .u64 (b:Int)] w fun e w' => e=.returned (.tuple #[.int .u64 2143289344,.int .i64 0])∧Below w.heap.size w w':=by
 rcases hn with rfl | ⟨rfl,rfl⟩
 all_goals
  go_enter Tryz.func148,Tryz.ntmps148
  go_wp2_with (first
   | (go_at_call 216;((with_reducible refine (HCA _).out.mono ?_);rintro e w1 ⟨rfl,rfl⟩))
   | (go_at_call 216;((with_reducible refine (HCB _).out.mono ?_);rintro e w1 ⟨rfl,rfl⟩))
   | (go_at_call 215;((with_reducible refine (HVA _).out.mono ?_);rintro e w1 ⟨v,rfl,hv,hb1⟩;have t1:=HNA.out v hv))
   | (go_at_call 215;((with_reducible refine (HVB _).out.mono ?_);rintro e w2 ⟨u,rfl,hu,hb2⟩;have t3:=HNB.out u hu))
   | (go_at_call 217;((with_reducible refine (rsign_32 _).mono ?_);rintro e w3 ⟨rfl,rfl⟩))
   | (go_at_call 225;((with_reducible refine (rcan_32 _).mono ?_);rintro e w3 ⟨rfl,rfl⟩)))
  go_ret2
  exact ⟨rfl,bnext hb1 hb2⟩
set_option maxRecDepth 20000 in
set_option maxHeartbeats 6400000 in
theorem RBa_32_2 (a b c d r:Nat) (V U:Nat→Prop) (h:Ieee.single.sub c d=some r) (hr:r < 2 * 2147483648∧r % 2147483648≤2139095040)
  (HCA:∀ W,Hid (Calls Tryz.prog 216 #[.int .i64 32,.int .u64 (a:Int)] W fun e w' => e=.returned (.int .u64 (c:Int))∧W=w'))
  (HCB:∀ W,Hid (Calls Tryz.prog 216 #[.int .i64 32,.int .u64 (b:Int)] W fun e w' => e=.returned (.int .u64 (d:Int))∧W=w'))
  (HVA:∀ W,Hid (Calls Tryz.prog 215 #[.int .i64 32,.int .u64 (c:Int)] W fun e w' => ∃ v:Nat,e=.returned (.float .f64 v)∧V v∧Below W.heap.size W w'))
  (HVB:∀ W,Hid (Calls Tryz.prog 215 #[.int .i64 32,.int .u64 (d:Int)] W fun e w' => ∃ v:Nat,e=.returned (.float .f64 v)∧U v∧Below W.heap.size W w'))
  (HNA:Hid (∀ v,V v→(FloatKind.f64.format.order v v != some .eq)=false))
  (HNB:Hid (∀ u,U u→(FloatKind.f64.format.order u u != some .eq)=false))
  (HFA:∀ W,Hid (Calls Tryz.prog 227 #[.int .u64 (c:Int)] W fun e w' => e=.returned (.float .f32 c)∧Below W.heap.size W w'))
  (HFB:∀ W,Hid (Calls Tryz.prog 227 #[.int .u64 (d:Int)] W fun e w' => e=.returned (.float .f32 d)∧Below W.heap.size W w')) (w:World) :
  Calls Tryz.prog 148 #[.int .i64 32,.int .i64 2,.int .u64 (a:Int),.int .u64 (b:Int)] w fun e w' => e=.returned (.tuple #[.int .u64 (r:Int),.int .i64 0])∧Below w.heap.size w w':=by
 have t:∀ W:World,(binOp .sub 164 (.float .f32 c) (.float .f32 d)).run Tryz.prog W=.ok (.float .f32 r) W:=fun W => run_float_arith W .sub 52 .f32 c d r h
 have HB:=fun W => hid (BB_32 r hr.1 hr.2 W)
 clear h hr
 go_enter Tryz.func148,Tryz.ntmps148
 go_wp2_with (first
   | (go_at_call 216;((with_reducible refine (HCA _).out.mono ?_);rintro e w1 ⟨rfl,rfl⟩))
   | (go_at_call 216;((with_reducible refine (HCB _).out.mono ?_);rintro e w1 ⟨rfl,rfl⟩))
   | (go_at_call 215;((with_reducible refine (HVA _).out.mono ?_);rintro e w1 ⟨v,rfl,hv,hb1⟩;have t1:=HNA.out v hv))
   | (go_at_call 215;((with_reducible refine (HVB _).out.mono ?_);rintro e w2 ⟨u,rfl,hu,hb2⟩;have t3:=HNB.out u hu))
   | (go_at_call 217;((with_reducible refine (rsign_32 _).mono ?_);rintro e w3 ⟨rfl,rfl⟩))
   | (go_at_call 225;((with_reducible refine (rcan_32 _).mono ?_);rintro e w3 ⟨rfl,rfl⟩))
   | (go_at_call 227;((with_reducible refine (HFA _).out.mono ?_);rintro e w4 ⟨rfl,hb4⟩))
   | (go_at_call 227;((with_reducible refine (HFB _).out.mono ?_);rintro e w5 ⟨rfl,hb5⟩))
   | (go_at_call 223;((with_reducible refine (HB _).out.mono ?_);rintro e w6 ⟨rfl,rfl⟩)))
 go_ret2
 exact ⟨rfl,bnext (bnext (bnext hb1 hb2) hb4) hb5⟩
set_option maxRecDepth 20000 in
set_option maxHeartbeats 6400000 in
theorem RBz_32_2 (a b c d:Nat) (V U:Nat→Prop) (h:Ieee.single.sub c d=none)
  (HCA:∀ W,Hid (Calls Tryz.prog 216 #[.int .i64 32,.int .u64 (a:Int)] W fun e w' => e=.returned (.int .u64 (c:Int))∧W=w'))
  (HCB:∀ W,Hid (Calls Tryz.prog 216 #[.int .i64 32,.int .u64 (b:Int)] W fun e w' => e=.returned (.int .u64 (d:Int))∧W=w'))
  (HVA:∀ W,Hid (Calls Tryz.prog 215 #[.int .i64 32,.int .u64 (c:Int)] W fun e w' => ∃ v:Nat,e=.returned (.float .f64 v)∧V v∧Below W.heap.size W w'))
  (HVB:∀ W,Hid (Calls Tryz.prog 215 #[.int .i64 32,.int .u64 (d:Int)] W fun e w' => ∃ v:Nat,e=.returned (.float .f64 v)∧U v∧Below W.heap.size W w'))
  (HNA:Hid (∀ v,V v→(FloatKind.f64.format.order v v != some .eq)=false))
  (HNB:Hid (∀ u,U u→(FloatKind.f64.format.order u u != some .eq)=false))
  (HFA:∀ W,Hid (Calls Tryz.prog 227 #[.int .u64 (c:Int)] W fun e w' => e=.returned (.float .f32 c)∧Below W.heap.size W w'))
  (HFB:∀ W,Hid (Calls Tryz.prog 227 #[.int .u64 (d:Int)] W fun e w' => e=.returned (.float .f32 d)∧Below W.heap.size W w')) (w:World) :
  Calls Tryz.prog 148 #[.int .i64 32,.int .i64 2,.int .u64 (a:Int),.int .u64 (b:Int)] w fun e w' => e=.returned (.tuple #[.int .u64 2143289344,.int .i64 0])∧Below w.heap.size w w':=by
 have HNN:=hid (arith_32_2 c d h)
 have HB:=hid BB_32_nan
 clear h
 go_enter Tryz.func148,Tryz.ntmps148
 go_wp2_with (first
   | (go_at_call 216;((with_reducible refine (HCA _).out.mono ?_);rintro e w1 ⟨rfl,rfl⟩))
   | (go_at_call 216;((with_reducible refine (HCB _).out.mono ?_);rintro e w1 ⟨rfl,rfl⟩))
   | (go_at_call 215;((with_reducible refine (HVA _).out.mono ?_);rintro e w1 ⟨v,rfl,hv,hb1⟩;have t1:=HNA.out v hv))
   | (go_at_call 215;((with_reducible refine (HVB _).out.mono ?_);rintro e w2 ⟨u,rfl,hu,hb2⟩;have t3:=HNB.out u hu))
   | (go_at_call 217;((with_reducible refine (rsign_32 _).mono ?_);rintro e w3 ⟨rfl,rfl⟩))
   | (go_at_call 225;((with_reducible refine (rcan_32 _).mono ?_);rintro e w3 ⟨rfl,rfl⟩))
   | (go_at_call 227;((with_reducible refine (HFA _).out.mono ?_);rintro e w4 ⟨rfl,hb4⟩))
   | (go_at_call 227;((with_reducible refine (HFB _).out.mono ?_);rintro e w5 ⟨rfl,hb5⟩;obtain ⟨N,hN1,hN2⟩:=HNN.out w5;have HN:=hid hN2;clear hN2))
   | (go_at_call 223;((with_reducible refine (HB.out _ HN.out _).mono ?_);rintro e w6 ⟨rfl,rfl⟩)))
 go_ret2
 exact ⟨rfl,(bnext (bnext (bnext hb1 hb2) hb4) hb5).drew⟩
theorem RBin_32_2 (a b:Nat) (ha:a < 18446744073709551616) (hb:b < 18446744073709551616) (w:World) :
  Calls Tryz.prog 148 #[.int .i64 32,.int .i64 2,.int .u64 (a:Int),.int .u64 (b:Int)] w fun e w' => e=.returned (.tuple #[.int .u64 ((binW Ieee.single 38 2147483648 2139095040 2143289344 23 (-149) 2 (a % 4294967296) (b % 4294967296):Nat):Int),.int .i64 0])∧Below w.heap.size w w':=by
 have HCA:=fun W => hid (rcut_32 a  W)
 have HCB:=fun W => hid (rcut_32 b  W)
 have hc:a % 4294967296 < 2 * 2147483648:=by omega
 have hd:b % 4294967296 < 2 * 2147483648:=by omega
 generalize a % 4294967296=c at *
 generalize b % 4294967296=d at *
 have HVA:∀ W,Hid (Calls Tryz.prog 215 #[.int .i64 32,.int .u64 (c:Int)] W (VPost 2147483648 2139095040 c W)):=fun W => hid (by have:=value_32 c W;rw [Nat.mod_eq_of_lt (show c < 4294967296 from hc)] at this;exact this)
 have HVB:∀ W,Hid (Calls Tryz.prog 215 #[.int .i64 32,.int .u64 (d:Int)] W (VPost 2147483648 2139095040 d W)):=fun W => hid (by have:=value_32 d W;rw [Nat.mod_eq_of_lt (show d < 4294967296 from hd)] at this;exact this)
 have HNA:Hid (∀ v,ValOf 2147483648 2139095040 c v→(FloatKind.f64.format.order v v != some .eq)=decide (2139095040 < c % 2147483648)):=hid fun v hv => val_ne hc hv
 have HNB:Hid (∀ v,ValOf 2147483648 2139095040 d v→(FloatKind.f64.format.order v v != some .eq)=decide (2139095040 < d % 2147483648)):=hid fun v hv => val_ne hd hv
 by_cases hn:2139095040 < c % 2147483648 ∨ 2139095040 < d % 2147483648
 ·have hres:binW Ieee.single 38 2147483648 2139095040 2143289344 23 (-149) 2 c d=2143289344:=by unfold binW;rw [if_pos ⟨by decide,show nanW 2147483648 2139095040 c d=true from decide_eq_true hn⟩]
  rw [hres]
  refine RBn_32_2 a b c d _ _ _ _ ?_ HCA HCB HVA HVB HNA HNB w
  by_cases h1:2139095040 < c % 2147483648
  ·exact .inl (decide_eq_true h1)
  ·exact .inr ⟨decide_eq_false h1,decide_eq_true (by omega)⟩
 have hres:binW Ieee.single 38 2147483648 2139095040 2143289344 23 (-149) 2 c d=(Ieee.single.sub c d).getD 2143289344:=by
  unfold binW
  rw [if_neg (by rintro ⟨_,h⟩;exact hn (of_decide_eq_true h)),if_neg (by decide),if_pos rfl]
  have ho:=opp_lt (SB:=2147483648) hd
  rw [sumW_add fmt_single 38 2143289344 (by decide) hc ho.1 (by omega) (by rw [ho.2.1];omega),add_opp fmt_single hc hd (by omega)]
 rw [hres]
 rw [decide_eq_false (show ¬ 2139095040 < c % 2147483648 by omega)] at HNA
 rw [decide_eq_false (show ¬ 2139095040 < d % 2147483648 by omega)] at HNB
 have HFA:∀ W,Hid (Calls Tryz.prog 227 #[.int .u64 (c:Int)] W fun e w' => e=.returned (.float .f32 c)∧Below W.heap.size W w'):=fun W => hid ((F32_any c W).mono fun e w' ⟨h1,h2⟩ => ⟨by rw [h1,Nat.mod_eq_of_lt (show c < 4294967296 from hc)],by rw [← h2];exact Below.refl _ _⟩)
 have HFB:∀ W,Hid (Calls Tryz.prog 227 #[.int .u64 (d:Int)] W fun e w' => e=.returned (.float .f32 d)∧Below W.heap.size W w'):=fun W => hid ((F32_any d W).mono fun e w' ⟨h1,h2⟩ => ⟨by rw [h1,Nat.mod_eq_of_lt (show d < 4294967296 from hd)],by rw [← h2];exact Below.refl _ _⟩)
 cases h:Ieee.single.sub c d with
 | none =>
  exact RBz_32_2 a b c d _ _ h HCA HCB HVA HVB HNA HNB HFA HFB w
 | some r =>
  have hr:r < 2 * 2147483648∧r % 2147483648≤2139095040:=by
   have h':=h
   unfold Ieee.Format.sub at h'
   obtain ⟨D,hD,rfl⟩:=Option.map_eq_some_iff.1 h'
   exact write_fin fmt_single D (sum_notNaN _ _ _ hD)
  exact RBa_32_2 a b c d r _ _ h hr HCA HCB HVA HVB HNA HNB HFA HFB w
theorem arith_32_3 (x y:Nat) (h:Ieee.single.mul x y=none) (w:World):∃ N:Nat,(binOp .mul 164 (.float .f32 x) (.float .f32 y)).run Tryz.prog w=.ok (.float .f32 N) w.drew∧2139095040 < N % 2147483648:=by
 refine ⟨Question.cut (.nanBits .f32 x y) (w.tape w.drawn (.nanBits .f32 x y)),?_,drawn_32 _⟩
 have h':FloatKind.f32.format.mul x y=none:=h
 simp [binOp,Op.floatArith,h',run_choose_drew,Question.forced]
set_option maxRecDepth 20000 in
set_option maxHeartbeats 6400000 in
theorem RBn_32_3 (a b c d:Nat) (V U:Nat→Prop) (nx ny:Bool) (hn:nx=true ∨ (nx=false∧ny=true))
  (HCA:∀ W,Hid (Calls Tryz.prog 216 #[.int .i64 32,.int .u64 (a:Int)] W fun e w' => e=.returned (.int .u64 (c:Int))∧W=w'))
  (HCB:∀ W,Hid (Calls Tryz.prog 216 #[.int .i64 32,.int .u64 (b:Int)] W fun e w' => e=.returned (.int .u64 (d:Int))∧W=w'))
  (HVA:∀ W,Hid (Calls Tryz.prog 215 #[.int .i64 32,.int .u64 (c:Int)] W fun e w' => ∃ v:Nat,e=.returned (.float .f64 v)∧V v∧Below W.heap.size W w'))
  (HVB:∀ W,Hid (Calls Tryz.prog 215 #[.int .i64 32,.int .u64 (d:Int)] W fun e w' => ∃ v:Nat,e=.returned (.float .f64 v)∧U v∧Below W.heap.size W w'))
  (HNA:Hid (∀ v,V v→(FloatKind.f64.format.order v v != some .eq)=nx))
  (HNB:Hid (∀ u,U u→(FloatKind.f64.format.order u u != some .eq)=ny)) (w:World) :
  Calls Tryz.prog 148 #[.int .i64 32,.int .i64 3,.int .u64 (a:Int),.int .u64 (b:Int)] w fun e w' => e=.returned (.tuple #[.int .u64 2143289344,.int .i64 0])∧Below w.heap.size w w':=by
 rcases hn with rfl | ⟨rfl,rfl⟩
 all_goals
  go_enter Tryz.func148,Tryz.ntmps148
  go_wp2_with (first
   | (go_at_call 216;((with_reducible refine (HCA _).out.mono ?_);rintro e w1 ⟨rfl,rfl⟩))
   | (go_at_call 216;((with_reducible refine (HCB _).out.mono ?_);rintro e w1 ⟨rfl,rfl⟩))
   | (go_at_call 215;((with_reducible refine (HVA _).out.mono ?_);rintro e w1 ⟨v,rfl,hv,hb1⟩;have t1:=HNA.out v hv))
   | (go_at_call 215;((with_reducible refine (HVB _).out.mono ?_);rintro e w2 ⟨u,rfl,hu,hb2⟩;have t3:=HNB.out u hu))
   | (go_at_call 217;((with_reducible refine (rsign_32 _).mono ?_);rintro e w3 ⟨rfl,rfl⟩))
   | (go_at_call 225;((with_reducible refine (rcan_32 _).mono ?_);rintro e w3 ⟨rfl,rfl⟩)))
  go_ret2
  exact ⟨rfl,bnext hb1 hb2⟩
set_option maxRecDepth 20000 in
set_option maxHeartbeats 6400000 in
theorem RBa_32_3 (a b c d r:Nat) (V U:Nat→Prop) (h:Ieee.single.mul c d=some r) (hr:r < 2 * 2147483648∧r % 2147483648≤2139095040)
  (HCA:∀ W,Hid (Calls Tryz.prog 216 #[.int .i64 32,.int .u64 (a:Int)] W fun e w' => e=.returned (.int .u64 (c:Int))∧W=w'))
  (HCB:∀ W,Hid (Calls Tryz.prog 216 #[.int .i64 32,.int .u64 (b:Int)] W fun e w' => e=.returned (.int .u64 (d:Int))∧W=w'))
  (HVA:∀ W,Hid (Calls Tryz.prog 215 #[.int .i64 32,.int .u64 (c:Int)] W fun e w' => ∃ v:Nat,e=.returned (.float .f64 v)∧V v∧Below W.heap.size W w'))
  (HVB:∀ W,Hid (Calls Tryz.prog 215 #[.int .i64 32,.int .u64 (d:Int)] W fun e w' => ∃ v:Nat,e=.returned (.float .f64 v)∧U v∧Below W.heap.size W w'))
  (HNA:Hid (∀ v,V v→(FloatKind.f64.format.order v v != some .eq)=false))
  (HNB:Hid (∀ u,U u→(FloatKind.f64.format.order u u != some .eq)=false))
  (HFA:∀ W,Hid (Calls Tryz.prog 227 #[.int .u64 (c:Int)] W fun e w' => e=.returned (.float .f32 c)∧Below W.heap.size W w'))
  (HFB:∀ W,Hid (Calls Tryz.prog 227 #[.int .u64 (d:Int)] W fun e w' => e=.returned (.float .f32 d)∧Below W.heap.size W w')) (w:World) :
  Calls Tryz.prog 148 #[.int .i64 32,.int .i64 3,.int .u64 (a:Int),.int .u64 (b:Int)] w fun e w' => e=.returned (.tuple #[.int .u64 (r:Int),.int .i64 0])∧Below w.heap.size w w':=by
 have t:∀ W:World,(binOp .mul 164 (.float .f32 c) (.float .f32 d)).run Tryz.prog W=.ok (.float .f32 r) W:=fun W => run_float_arith W .mul 52 .f32 c d r h
 have HB:=fun W => hid (BB_32 r hr.1 hr.2 W)
 clear h hr
 go_enter Tryz.func148,Tryz.ntmps148
 go_wp2_with (first
   | (go_at_call 216;((with_reducible refine (HCA _).out.mono ?_);rintro e w1 ⟨rfl,rfl⟩))
   | (go_at_call 216;((with_reducible refine (HCB _).out.mono ?_);rintro e w1 ⟨rfl,rfl⟩))
   | (go_at_call 215;((with_reducible refine (HVA _).out.mono ?_);rintro e w1 ⟨v,rfl,hv,hb1⟩;have t1:=HNA.out v hv))
   | (go_at_call 215;((with_reducible refine (HVB _).out.mono ?_);rintro e w2 ⟨u,rfl,hu,hb2⟩;have t3:=HNB.out u hu))
   | (go_at_call 217;((with_reducible refine (rsign_32 _).mono ?_);rintro e w3 ⟨rfl,rfl⟩))
   | (go_at_call 225;((with_reducible refine (rcan_32 _).mono ?_);rintro e w3 ⟨rfl,rfl⟩))
   | (go_at_call 227;((with_reducible refine (HFA _).out.mono ?_);rintro e w4 ⟨rfl,hb4⟩))
   | (go_at_call 227;((with_reducible refine (HFB _).out.mono ?_);rintro e w5 ⟨rfl,hb5⟩))
   | (go_at_call 223;((with_reducible refine (HB _).out.mono ?_);rintro e w6 ⟨rfl,rfl⟩)))
 go_ret2
 exact ⟨rfl,bnext (bnext (bnext hb1 hb2) hb4) hb5⟩
set_option maxRecDepth 20000 in
set_option maxHeartbeats 6400000 in
theorem RBz_32_3 (a b c d:Nat) (V U:Nat→Prop) (h:Ieee.single.mul c d=none)
  (HCA:∀ W,Hid (Calls Tryz.prog 216 #[.int .i64 32,.int .u64 (a:Int)] W fun e w' => e=.returned (.int .u64 (c:Int))∧W=w'))
  (HCB:∀ W,Hid (Calls Tryz.prog 216 #[.int .i64 32,.int .u64 (b:Int)] W fun e w' => e=.returned (.int .u64 (d:Int))∧W=w'))
  (HVA:∀ W,Hid (Calls Tryz.prog 215 #[.int .i64 32,.int .u64 (c:Int)] W fun e w' => ∃ v:Nat,e=.returned (.float .f64 v)∧V v∧Below W.heap.size W w'))
  (HVB:∀ W,Hid (Calls Tryz.prog 215 #[.int .i64 32,.int .u64 (d:Int)] W fun e w' => ∃ v:Nat,e=.returned (.float .f64 v)∧U v∧Below W.heap.size W w'))
  (HNA:Hid (∀ v,V v→(FloatKind.f64.format.order v v != some .eq)=false))
  (HNB:Hid (∀ u,U u→(FloatKind.f64.format.order u u != some .eq)=false))
  (HFA:∀ W,Hid (Calls Tryz.prog 227 #[.int .u64 (c:Int)] W fun e w' => e=.returned (.float .f32 c)∧Below W.heap.size W w'))
  (HFB:∀ W,Hid (Calls Tryz.prog 227 #[.int .u64 (d:Int)] W fun e w' => e=.returned (.float .f32 d)∧Below W.heap.size W w')) (w:World) :
  Calls Tryz.prog 148 #[.int .i64 32,.int .i64 3,.int .u64 (a:Int),.int .u64 (b:Int)] w fun e w' => e=.returned (.tuple #[.int .u64 2143289344,.int .i64 0])∧Below w.heap.size w w':=by
 have HNN:=hid (arith_32_3 c d h)
 have HB:=hid BB_32_nan
 clear h
 go_enter Tryz.func148,Tryz.ntmps148
 go_wp2_with (first
   | (go_at_call 216;((with_reducible refine (HCA _).out.mono ?_);rintro e w1 ⟨rfl,rfl⟩))
   | (go_at_call 216;((with_reducible refine (HCB _).out.mono ?_);rintro e w1 ⟨rfl,rfl⟩))
   | (go_at_call 215;((with_reducible refine (HVA _).out.mono ?_);rintro e w1 ⟨v,rfl,hv,hb1⟩;have t1:=HNA.out v hv))
   | (go_at_call 215;((with_reducible refine (HVB _).out.mono ?_);rintro e w2 ⟨u,rfl,hu,hb2⟩;have t3:=HNB.out u hu))
   | (go_at_call 217;((with_reducible refine (rsign_32 _).mono ?_);rintro e w3 ⟨rfl,rfl⟩))
   | (go_at_call 225;((with_reducible refine (rcan_32 _).mono ?_);rintro e w3 ⟨rfl,rfl⟩))
   | (go_at_call 227;((with_reducible refine (HFA _).out.mono ?_);rintro e w4 ⟨rfl,hb4⟩))
   | (go_at_call 227;((with_reducible refine (HFB _).out.mono ?_);rintro e w5 ⟨rfl,hb5⟩;obtain ⟨N,hN1,hN2⟩:=HNN.out w5;have HN:=hid hN2;clear hN2))
   | (go_at_call 223;((with_reducible refine (HB.out _ HN.out _).mono ?_);rintro e w6 ⟨rfl,rfl⟩)))
 go_ret2
 exact ⟨rfl,(bnext (bnext (bnext hb1 hb2) hb4) hb5).drew⟩
theorem RBin_32_3 (a b:Nat) (ha:a < 18446744073709551616) (hb:b < 18446744073709551616) (w:World) :
  Calls Tryz.prog 148 #[.int .i64 32,.int .i64 3,.int .u64 (a:Int),.int .u64 (b:Int)] w fun e w' => e=.returned (.tuple #[.int .u64 ((binW Ieee.single 38 2147483648 2139095040 2143289344 23 (-149) 3 (a % 4294967296) (b % 4294967296):Nat):Int),.int .i64 0])∧Below w.heap.size w w':=by
 have HCA:=fun W => hid (rcut_32 a  W)
 have HCB:=fun W => hid (rcut_32 b  W)
 have hc:a % 4294967296 < 2 * 2147483648:=by omega
 have hd:b % 4294967296 < 2 * 2147483648:=by omega
 generalize a % 4294967296=c at *
 generalize b % 4294967296=d at *
 have HVA:∀ W,Hid (Calls Tryz.prog 215 #[.int .i64 32,.int .u64 (c:Int)] W (VPost 2147483648 2139095040 c W)):=fun W => hid (by have:=value_32 c W;rw [Nat.mod_eq_of_lt (show c < 4294967296 from hc)] at this;exact this)
 have HVB:∀ W,Hid (Calls Tryz.prog 215 #[.int .i64 32,.int .u64 (d:Int)] W (VPost 2147483648 2139095040 d W)):=fun W => hid (by have:=value_32 d W;rw [Nat.mod_eq_of_lt (show d < 4294967296 from hd)] at this;exact this)
 have HNA:Hid (∀ v,ValOf 2147483648 2139095040 c v→(FloatKind.f64.format.order v v != some .eq)=decide (2139095040 < c % 2147483648)):=hid fun v hv => val_ne hc hv
 have HNB:Hid (∀ v,ValOf 2147483648 2139095040 d v→(FloatKind.f64.format.order v v != some .eq)=decide (2139095040 < d % 2147483648)):=hid fun v hv => val_ne hd hv
 by_cases hn:2139095040 < c % 2147483648 ∨ 2139095040 < d % 2147483648
 ·have hres:binW Ieee.single 38 2147483648 2139095040 2143289344 23 (-149) 3 c d=2143289344:=by unfold binW;rw [if_pos ⟨by decide,show nanW 2147483648 2139095040 c d=true from decide_eq_true hn⟩]
  rw [hres]
  refine RBn_32_3 a b c d _ _ _ _ ?_ HCA HCB HVA HVB HNA HNB w
  by_cases h1:2139095040 < c % 2147483648
  ·exact .inl (decide_eq_true h1)
  ·exact .inr ⟨decide_eq_false h1,decide_eq_true (by omega)⟩
 have hres:binW Ieee.single 38 2147483648 2139095040 2143289344 23 (-149) 3 c d=(Ieee.single.mul c d).getD 2143289344:=by
  unfold binW
  rw [if_neg (by rintro ⟨_,h⟩;exact hn (of_decide_eq_true h)),if_neg (by decide),if_neg (by decide),if_pos rfl]
 rw [hres]
 rw [decide_eq_false (show ¬ 2139095040 < c % 2147483648 by omega)] at HNA
 rw [decide_eq_false (show ¬ 2139095040 < d % 2147483648 by omega)] at HNB
 have HFA:∀ W,Hid (Calls Tryz.prog 227 #[.int .u64 (c:Int)] W fun e w' => e=.returned (.float .f32 c)∧Below W.heap.size W w'):=fun W => hid ((F32_any c W).mono fun e w' ⟨h1,h2⟩ => ⟨by rw [h1,Nat.mod_eq_of_lt (show c < 4294967296 from hc)],by rw [← h2];exact Below.refl _ _⟩)
 have HFB:∀ W,Hid (Calls Tryz.prog 227 #[.int .u64 (d:Int)] W fun e w' => e=.returned (.float .f32 d)∧Below W.heap.size W w'):=fun W => hid ((F32_any d W).mono fun e w' ⟨h1,h2⟩ => ⟨by rw [h1,Nat.mod_eq_of_lt (show d < 4294967296 from hd)],by rw [← h2];exact Below.refl _ _⟩)
 cases h:Ieee.single.mul c d with
 | none =>
  exact RBz_32_3 a b c d _ _ h HCA HCB HVA HVB HNA HNB HFA HFB w
 | some r =>
  have hr:r < 2 * 2147483648∧r % 2147483648≤2139095040:=by
   have h':=h
   unfold Ieee.Format.mul at h'
   obtain ⟨D,hD,rfl⟩:=Option.map_eq_some_iff.1 h'
   exact write_fin fmt_single D (product_notNaN _ _ _ hD)
  exact RBa_32_3 a b c d r _ _ h hr HCA HCB HVA HVB HNA HNB HFA HFB w
theorem arith_32_4 (x y:Nat) (h:Ieee.single.div x y=none) (w:World):∃ N:Nat,(binOp .quo 164 (.float .f32 x) (.float .f32 y)).run Tryz.prog w=.ok (.float .f32 N) w.drew∧2139095040 < N % 2147483648:=by
 refine ⟨Question.cut (.nanBits .f32 x y) (w.tape w.drawn (.nanBits .f32 x y)),?_,drawn_32 _⟩
 have h':FloatKind.f32.format.div x y=none:=h
 simp [binOp,Op.floatArith,h',run_choose_drew,Question.forced]
set_option maxRecDepth 20000 in
set_option maxHeartbeats 6400000 in
theorem RBn_32_4 (a b c d:Nat) (V U:Nat→Prop) (nx ny:Bool) (hn:nx=true ∨ (nx=false∧ny=true))
  (HCA:∀ W,Hid (Calls Tryz.prog 216 #[.int .i64 32,.int .u64 (a:Int)] W fun e w' => e=.returned (.int .u64 (c:Int))∧W=w'))
  (HCB:∀ W,Hid (Calls Tryz.prog 216 #[.int .i64 32,.int .u64 (b:Int)] W fun e w' => e=.returned (.int .u64 (d:Int))∧W=w'))
  (HVA:∀ W,Hid (Calls Tryz.prog 215 #[.int .i64 32,.int .u64 (c:Int)] W fun e w' => ∃ v:Nat,e=.returned (.float .f64 v)∧V v∧Below W.heap.size W w'))
  (HVB:∀ W,Hid (Calls Tryz.prog 215 #[.int .i64 32,.int .u64 (d:Int)] W fun e w' => ∃ v:Nat,e=.returned (.float .f64 v)∧U v∧Below W.heap.size W w'))
  (HNA:Hid (∀ v,V v→(FloatKind.f64.format.order v v != some .eq)=nx))
  (HNB:Hid (∀ u,U u→(FloatKind.f64.format.order u u != some .eq)=ny)) (w:World) :
  Calls Tryz.prog 148 #[.int .i64 32,.int .i64 4,.int .u64 (a:Int),.int .u64 (b:Int)] w fun e w' => e=.returned (.tuple #[.int .u64 2143289344,.int .i64 0])∧Below w.heap.size w w':=by
 rcases hn with rfl | ⟨rfl,rfl⟩
 all_goals
  go_enter Tryz.func148,Tryz.ntmps148
  go_wp2_with (first
   | (go_at_call 216;((with_reducible refine (HCA _).out.mono ?_);rintro e w1 ⟨rfl,rfl⟩))
   | (go_at_call 216;((with_reducible refine (HCB _).out.mono ?_);rintro e w1 ⟨rfl,rfl⟩))
   | (go_at_call 215;((with_reducible refine (HVA _).out.mono ?_);rintro e w1 ⟨v,rfl,hv,hb1⟩;have t1:=HNA.out v hv))
   | (go_at_call 215;((with_reducible refine (HVB _).out.mono ?_);rintro e w2 ⟨u,rfl,hu,hb2⟩;have t3:=HNB.out u hu))
   | (go_at_call 217;((with_reducible refine (rsign_32 _).mono ?_);rintro e w3 ⟨rfl,rfl⟩))
   | (go_at_call 225;((with_reducible refine (rcan_32 _).mono ?_);rintro e w3 ⟨rfl,rfl⟩)))
  go_ret2
  exact ⟨rfl,bnext hb1 hb2⟩
set_option maxRecDepth 20000 in
set_option maxHeartbeats 6400000 in
theorem RBa_32_4 (a b c d r:Nat) (V U:Nat→Prop) (h:Ieee.single.div c d=some r) (hr:r < 2 * 2147483648∧r % 2147483648≤2139095040)
  (HCA:∀ W,Hid (Calls Tryz.prog 216 #[.int .i64 32,.int .u64 (a:Int)] W fun e w' => e=.returned (.int .u64 (c:Int))∧W=w'))
  (HCB:∀ W,Hid (Calls Tryz.prog 216 #[.int .i64 32,.int .u64 (b:Int)] W fun e w' => e=.returned (.int .u64 (d:Int))∧W=w'))
  (HVA:∀ W,Hid (Calls Tryz.prog 215 #[.int .i64 32,.int .u64 (c:Int)] W fun e w' => ∃ v:Nat,e=.returned (.float .f64 v)∧V v∧Below W.heap.size W w'))
  (HVB:∀ W,Hid (Calls Tryz.prog 215 #[.int .i64 32,.int .u64 (d:Int)] W fun e w' => ∃ v:Nat,e=.returned (.float .f64 v)∧U v∧Below W.heap.size W w'))
  (HNA:Hid (∀ v,V v→(FloatKind.f64.format.order v v != some .eq)=false))
  (HNB:Hid (∀ u,U u→(FloatKind.f64.format.order u u != some .eq)=false))
  (HFA:∀ W,Hid (Calls Tryz.prog 227 #[.int .u64 (c:Int)] W fun e w' => e=.returned (.float .f32 c)∧Below W.heap.size W w'))
  (HFB:∀ W,Hid (Calls Tryz.prog 227 #[.int .u64 (d:Int)] W fun e w' => e=.returned (.float .f32 d)∧Below W.heap.size W w')) (w:World) :
  Calls Tryz.prog 148 #[.int .i64 32,.int .i64 4,.int .u64 (a:Int),.int .u64 (b:Int)] w fun e w' => e=.returned (.tuple #[.int .u64 (r:Int),.int .i64 0])∧Below w.heap.size w w':=by
 have t:∀ W:World,(binOp .quo 164 (.float .f32 c) (.float .f32 d)).run Tryz.prog W=.ok (.float .f32 r) W:=fun W => run_float_arith W .quo 52 .f32 c d r h
 have HB:=fun W => hid (BB_32 r hr.1 hr.2 W)
 clear h hr
 go_enter Tryz.func148,Tryz.ntmps148
 go_wp2_with (first
   | (go_at_call 216;((with_reducible refine (HCA _).out.mono ?_);rintro e w1 ⟨rfl,rfl⟩))
   | (go_at_call 216;((with_reducible refine (HCB _).out.mono ?_);rintro e w1 ⟨rfl,rfl⟩))
   | (go_at_call 215;((with_reducible refine (HVA _).out.mono ?_);rintro e w1 ⟨v,rfl,hv,hb1⟩;have t1:=HNA.out v hv))
   | (go_at_call 215;((with_reducible refine (HVB _).out.mono ?_);rintro e w2 ⟨u,rfl,hu,hb2⟩;have t3:=HNB.out u hu))
   | (go_at_call 217;((with_reducible refine (rsign_32 _).mono ?_);rintro e w3 ⟨rfl,rfl⟩))
   | (go_at_call 225;((with_reducible refine (rcan_32 _).mono ?_);rintro e w3 ⟨rfl,rfl⟩))
   | (go_at_call 227;((with_reducible refine (HFA _).out.mono ?_);rintro e w4 ⟨rfl,hb4⟩))
   | (go_at_call 227;((with_reducible refine (HFB _).out.mono ?_);rintro e w5 ⟨rfl,hb5⟩))
   | (go_at_call 223;((with_reducible refine (HB _).out.mono ?_);rintro e w6 ⟨rfl,rfl⟩)))
 go_ret2
 exact ⟨rfl,bnext (bnext (bnext hb1 hb2) hb4) hb5⟩
set_option maxRecDepth 20000 in
set_option maxHeartbeats 6400000 in
theorem RBz_32_4 (a b c d:Nat) (V U:Nat→Prop) (h:Ieee.single.div c d=none)
  (HCA:∀ W,Hid (Calls Tryz.prog 216 #[.int .i64 32,.int .u64 (a:Int)] W fun e w' => e=.returned (.int .u64 (c:Int))∧W=w'))
  (HCB:∀ W,Hid (Calls Tryz.prog 216 #[.int .i64 32,.int .u64 (b:Int)] W fun e w' => e=.returned (.int .u64 (d:Int))∧W=w'))
  (HVA:∀ W,Hid (Calls Tryz.prog 215 #[.int .i64 32,.int .u64 (c:Int)] W fun e w' => ∃ v:Nat,e=.returned (.float .f64 v)∧V v∧Below W.heap.size W w'))
  (HVB:∀ W,Hid (Calls Tryz.prog 215 #[.int .i64 32,.int .u64 (d:Int)] W fun e w' => ∃ v:Nat,e=.returned (.float .f64 v)∧U v∧Below W.heap.size W w'))
  (HNA:Hid (∀ v,V v→(FloatKind.f64.format.order v v != some .eq)=false))
  (HNB:Hid (∀ u,U u→(FloatKind.f64.format.order u u != some .eq)=false))
  (HFA:∀ W,Hid (Calls Tryz.prog 227 #[.int .u64 (c:Int)] W fun e w' => e=.returned (.float .f32 c)∧Below W.heap.size W w'))
  (HFB:∀ W,Hid (Calls Tryz.prog 227 #[.int .u64 (d:Int)] W fun e w' => e=.returned (.float .f32 d)∧Below W.heap.size W w')) (w:World) :
  Calls Tryz.prog 148 #[.int .i64 32,.int .i64 4,.int .u64 (a:Int),.int .u64 (b:Int)] w fun e w' => e=.returned (.tuple #[.int .u64 2143289344,.int .i64 0])∧Below w.heap.size w w':=by
 have HNN:=hid (arith_32_4 c d h)
 have HB:=hid BB_32_nan
 clear h
 go_enter Tryz.func148,Tryz.ntmps148
 go_wp2_with (first
   | (go_at_call 216;((with_reducible refine (HCA _).out.mono ?_);rintro e w1 ⟨rfl,rfl⟩))
   | (go_at_call 216;((with_reducible refine (HCB _).out.mono ?_);rintro e w1 ⟨rfl,rfl⟩))
   | (go_at_call 215;((with_reducible refine (HVA _).out.mono ?_);rintro e w1 ⟨v,rfl,hv,hb1⟩;have t1:=HNA.out v hv))
   | (go_at_call 215;((with_reducible refine (HVB _).out.mono ?_);rintro e w2 ⟨u,rfl,hu,hb2⟩;have t3:=HNB.out u hu))
   | (go_at_call 217;((with_reducible refine (rsign_32 _).mono ?_);rintro e w3 ⟨rfl,rfl⟩))
   | (go_at_call 225;((with_reducible refine (rcan_32 _).mono ?_);rintro e w3 ⟨rfl,rfl⟩))
   | (go_at_call 227;((with_reducible refine (HFA _).out.mono ?_);rintro e w4 ⟨rfl,hb4⟩))
   | (go_at_call 227;((with_reducible refine (HFB _).out.mono ?_);rintro e w5 ⟨rfl,hb5⟩;obtain ⟨N,hN1,hN2⟩:=HNN.out w5;have HN:=hid hN2;clear hN2))
   | (go_at_call 223;((with_reducible refine (HB.out _ HN.out _).mono ?_);rintro e w6 ⟨rfl,rfl⟩)))
 go_ret2
 exact ⟨rfl,(bnext (bnext (bnext hb1 hb2) hb4) hb5).drew⟩
theorem RBin_32_4 (a b:Nat) (ha:a < 18446744073709551616) (hb:b < 18446744073709551616) (w:World) :
  Calls Tryz.prog 148 #[.int .i64 32,.int .i64 4,.int .u64 (a:Int),.int .u64 (b:Int)] w fun e w' => e=.returned (.tuple #[.int .u64 ((binW Ieee.single 38 2147483648 2139095040 2143289344 23 (-149) 4 (a % 4294967296) (b % 4294967296):Nat):Int),.int .i64 0])∧Below w.heap.size w w':=by
 have HCA:=fun W => hid (rcut_32 a  W)
 have HCB:=fun W => hid (rcut_32 b  W)
 have hc:a % 4294967296 < 2 * 2147483648:=by omega
 have hd:b % 4294967296 < 2 * 2147483648:=by omega
 generalize a % 4294967296=c at *
 generalize b % 4294967296=d at *
 have HVA:∀ W,Hid (Calls Tryz.prog 215 #[.int .i64 32,.int .u64 (c:Int)] W (VPost 2147483648 2139095040 c W)):=fun W => hid (by have:=value_32 c W;rw [Nat.mod_eq_of_lt (show c < 4294967296 from hc)] at this;exact this)
 have HVB:∀ W,Hid (Calls Tryz.prog 215 #[.int .i64 32,.int .u64 (d:Int)] W (VPost 2147483648 2139095040 d W)):=fun W => hid (by have:=value_32 d W;rw [Nat.mod_eq_of_lt (show d < 4294967296 from hd)] at this;exact this)
 have HNA:Hid (∀ v,ValOf 2147483648 2139095040 c v→(FloatKind.f64.format.order v v != some .eq)=decide (2139095040 < c % 2147483648)):=hid fun v hv => val_ne hc hv
 have HNB:Hid (∀ v,ValOf 2147483648 2139095040 d v→(FloatKind.f64.format.order v v != some .eq)=decide (2139095040 < d % 2147483648)):=hid fun v hv => val_ne hd hv
 by_cases hn:2139095040 < c % 2147483648 ∨ 2139095040 < d % 2147483648
 ·have hres:binW Ieee.single 38 2147483648 2139095040 2143289344 23 (-149) 4 c d=2143289344:=by unfold binW;rw [if_pos ⟨by decide,show nanW 2147483648 2139095040 c d=true from decide_eq_true hn⟩]
  rw [hres]
  refine RBn_32_4 a b c d _ _ _ _ ?_ HCA HCB HVA HVB HNA HNB w
  by_cases h1:2139095040 < c % 2147483648
  ·exact .inl (decide_eq_true h1)
  ·exact .inr ⟨decide_eq_false h1,decide_eq_true (by omega)⟩
 have hres:binW Ieee.single 38 2147483648 2139095040 2143289344 23 (-149) 4 c d=(Ieee.single.div c d).getD 2143289344:=by
  unfold binW
  rw [if_neg (by rintro ⟨_,h⟩;exact hn (of_decide_eq_true h)),if_neg (by decide),if_neg (by decide),if_neg (by decide),if_pos rfl]
 rw [hres]
 rw [decide_eq_false (show ¬ 2139095040 < c % 2147483648 by omega)] at HNA
 rw [decide_eq_false (show ¬ 2139095040 < d % 2147483648 by omega)] at HNB
 have HFA:∀ W,Hid (Calls Tryz.prog 227 #[.int .u64 (c:Int)] W fun e w' => e=.returned (.float .f32 c)∧Below W.heap.size W w'):=fun W => hid ((F32_any c W).mono fun e w' ⟨h1,h2⟩ => ⟨by rw [h1,Nat.mod_eq_of_lt (show c < 4294967296 from hc)],by rw [← h2];exact Below.refl _ _⟩)
 have HFB:∀ W,Hid (Calls Tryz.prog 227 #[.int .u64 (d:Int)] W fun e w' => e=.returned (.float .f32 d)∧Below W.heap.size W w'):=fun W => hid ((F32_any d W).mono fun e w' ⟨h1,h2⟩ => ⟨by rw [h1,Nat.mod_eq_of_lt (show d < 4294967296 from hd)],by rw [← h2];exact Below.refl _ _⟩)
 cases h:Ieee.single.div c d with
 | none =>
  exact RBz_32_4 a b c d _ _ h HCA HCB HVA HVB HNA HNB HFA HFB w
 | some r =>
  have hr:r < 2 * 2147483648∧r % 2147483648≤2139095040:=by
   have h':=h
   unfold Ieee.Format.div at h'
   obtain ⟨D,hD,rfl⟩:=Option.map_eq_some_iff.1 h'
   exact write_fin fmt_single D (quotient_notNaN _ _ _ _ hD)
  exact RBa_32_4 a b c d r _ _ h hr HCA HCB HVA HVB HNA HNB HFA HFB w
theorem arith_64_1 (x y:Nat) (h:Ieee.double.add x y=none) (w:World):∃ N:Nat,(binOp .add 159 (.float .f64 x) (.float .f64 y)).run Tryz.prog w=.ok (.float .f64 N) w.drew∧9218868437227405312 < N % 9223372036854775808:=by
 refine ⟨Question.cut (.nanBits .f64 x y) (w.tape w.drawn (.nanBits .f64 x y)),?_,drawn_64 _⟩
 have h':FloatKind.f64.format.add x y=none:=h
 simp [binOp,Op.floatArith,h',run_choose_drew,Question.forced]
set_option maxRecDepth 20000 in
set_option maxHeartbeats 6400000 in
theorem RBn_64_1 (a b c d:Nat) (V U:Nat→Prop) (nx ny:Bool) (hn:nx=true ∨ (nx=false∧ny=true))
  (HCA:∀ W,Hid (Calls Tryz.prog 216 #[.int .i64 64,.int .u64 (a:Int)] W fun e w' => e=.returned (.int .u64 (c:Int))∧W=w'))
  (HCB:∀ W,Hid (Calls Tryz.prog 216 #[.int .i64 64,.int .u64 (b:Int)] W fun e w' => e=.returned (.int .u64 (d:Int))∧W=w'))
  (HVA:∀ W,Hid (Calls Tryz.prog 215 #[.int .i64 64,.int .u64 (c:Int)] W fun e w' => ∃ v:Nat,e=.returned (.float .f64 v)∧V v∧Below W.heap.size W w'))
  (HVB:∀ W,Hid (Calls Tryz.prog 215 #[.int .i64 64,.int .u64 (d:Int)] W fun e w' => ∃ v:Nat,e=.returned (.float .f64 v)∧U v∧Below W.heap.size W w'))
  (HNA:Hid (∀ v,V v→(FloatKind.f64.format.order v v != some .eq)=nx))
  (HNB:Hid (∀ u,U u→(FloatKind.f64.format.order u u != some .eq)=ny)) (w:World) :
  Calls Tryz.prog 148 #[.int .i64 64,.int .i64 1,.int .u64 (a:Int),.int .u64 (b:Int)] w fun e w' => e=.returned (.tuple #[.int .u64 9221120237041090560,.int .i64 0])∧Below w.heap.size w w':=by
 rcases hn with rfl | ⟨rfl,rfl⟩
 all_goals
  go_enter Tryz.func148,Tryz.ntmps148
  go_wp2_with (first
   | (go_at_call 216;((with_reducible refine (HCA _).out.mono ?_);rintro e w1 ⟨rfl,rfl⟩))
   | (go_at_call 216;((with_reducible refine (HCB _).out.mono ?_);rintro e w1 ⟨rfl,rfl⟩))
   | (go_at_call 215;((with_reducible refine (HVA _).out.mono ?_);rintro e w1 ⟨v,rfl,hv,hb1⟩;have t1:=HNA.out v hv))
   | (go_at_call 215;((with_reducible refine (HVB _).out.mono ?_);rintro e w2 ⟨u,rfl,hu,hb2⟩;have t3:=HNB.out u hu))
   | (go_at_call 217;((with_reducible refine (rsign_64 _).mono ?_);rintro e w3 ⟨rfl,rfl⟩))
   | (go_at_call 225;((with_reducible refine (rcan_64 _).mono ?_);rintro e w3 ⟨rfl,rfl⟩)))
  go_ret2
  exact ⟨rfl,bnext hb1 hb2⟩
theorem worked_1 (x y r:Nat) (h:Ieee.double.add x y=some r) (w:World):Calls Tryz.prog 226 #[.int .i64 1,.float .f64 x,.float .f64 y] w fun e w' => e=.returned (.float .f64 r)∧w=w':=by
 have t:∀ W:World,(binOp .add 159 (.float .f64 x) (.float .f64 y)).run Tryz.prog W=.ok (.float .f64 r) W:=fun W => run_float_arith W .add 48 .f64 x y r h
 clear h
 go_enter Tryz.func226,Tryz.ntmps226
 go_wp2
 go_ret
 exact ⟨rfl,rfl⟩
theorem worked_1_nan (x y:Nat) (h:Ieee.double.add x y=none) (w:World):Calls Tryz.prog 226 #[.int .i64 1,.float .f64 x,.float .f64 y] w fun e w' => ∃ N:Nat,e=.returned (.float .f64 N)∧9218868437227405312 < N % 9223372036854775808∧Below w.heap.size w w':=by
 obtain ⟨N,hN1,hN2⟩:=arith_64_1 x y h w
 have HN:=hid hN2
 clear h hN2
 go_enter Tryz.func226,Tryz.ntmps226
 go_wp2
 go_ret
 exact ⟨N,rfl,HN.out,(Below.refl _ _).drew⟩
set_option maxRecDepth 20000 in
set_option maxHeartbeats 6400000 in
theorem RBa_64_1 (a b c d r:Nat) (h:Ieee.double.add c d=some r) (hr:r < 2 * 9223372036854775808∧r % 9223372036854775808≤9218868437227405312)
  (HCA:∀ W,Hid (Calls Tryz.prog 216 #[.int .i64 64,.int .u64 (a:Int)] W fun e w' => e=.returned (.int .u64 (c:Int))∧W=w'))
  (HCB:∀ W,Hid (Calls Tryz.prog 216 #[.int .i64 64,.int .u64 (b:Int)] W fun e w' => e=.returned (.int .u64 (d:Int))∧W=w'))
  (HVA:∀ W,Hid (Calls Tryz.prog 215 #[.int .i64 64,.int .u64 (c:Int)] W fun e w' => e=.returned (.float .f64 c)∧Below W.heap.size W w'))
  (HVB:∀ W,Hid (Calls Tryz.prog 215 #[.int .i64 64,.int .u64 (d:Int)] W fun e w' => e=.returned (.float .f64 d)∧Below W.heap.size W w'))
  (t1:(FloatKind.f64.format.order c c != some .eq)=false) (t2:(FloatKind.f64.format.order d d != some .eq)=false) (w:World) :
  Calls Tryz.prog 148 #[.int .i64 64,.int .i64 1,.int .u64 (a:Int),.int .u64 (b:Int)] w fun e w' => e=.returned (.tuple #[.int .u64 (r:Int),.int .i64 0])∧Below w.heap.size w w':=by
 have HW:=fun W => hid (worked_1 c d r h W)
 have HB:=fun W => hid (BB_64 r hr.1 hr.2 W)
 clear h hr
 go_enter Tryz.func148,Tryz.ntmps148
 go_wp2_with (first
   | (go_at_call 216;((with_reducible refine (HCA _).out.mono ?_);rintro e w1 ⟨rfl,rfl⟩))
   | (go_at_call 216;((with_reducible refine (HCB _).out.mono ?_);rintro e w1 ⟨rfl,rfl⟩))
   | (go_at_call 215;((with_reducible refine (HVA _).out.mono ?_);rintro e w1 ⟨rfl,hb1⟩))
   | (go_at_call 215;((with_reducible refine (HVB _).out.mono ?_);rintro e w2 ⟨rfl,hb2⟩))
   | (go_at_call 217;((with_reducible refine (rsign_64 _).mono ?_);rintro e w3 ⟨rfl,rfl⟩))
   | (go_at_call 226;((with_reducible refine (HW _).out.mono ?_);rintro e w3 ⟨rfl,rfl⟩))
   | (go_at_call 224;((with_reducible refine (HB _).out.mono ?_);rintro e w3 ⟨rfl,rfl⟩)))
 go_ret2
 exact ⟨rfl,bnext hb1 hb2⟩
set_option maxRecDepth 20000 in
set_option maxHeartbeats 6400000 in
theorem RBz_64_1 (a b c d:Nat) (h:Ieee.double.add c d=none)
  (HCA:∀ W,Hid (Calls Tryz.prog 216 #[.int .i64 64,.int .u64 (a:Int)] W fun e w' => e=.returned (.int .u64 (c:Int))∧W=w'))
  (HCB:∀ W,Hid (Calls Tryz.prog 216 #[.int .i64 64,.int .u64 (b:Int)] W fun e w' => e=.returned (.int .u64 (d:Int))∧W=w'))
  (HVA:∀ W,Hid (Calls Tryz.prog 215 #[.int .i64 64,.int .u64 (c:Int)] W fun e w' => e=.returned (.float .f64 c)∧Below W.heap.size W w'))
  (HVB:∀ W,Hid (Calls Tryz.prog 215 #[.int .i64 64,.int .u64 (d:Int)] W fun e w' => e=.returned (.float .f64 d)∧Below W.heap.size W w'))
  (t1:(FloatKind.f64.format.order c c != some .eq)=false) (t2:(FloatKind.f64.format.order d d != some .eq)=false) (w:World) :
  Calls Tryz.prog 148 #[.int .i64 64,.int .i64 1,.int .u64 (a:Int),.int .u64 (b:Int)] w fun e w' => e=.returned (.tuple #[.int .u64 9221120237041090560,.int .i64 0])∧Below w.heap.size w w':=by
 have HW:=fun W => hid (worked_1_nan c d h W)
 have HB:=hid BB_64_nan
 clear h
 go_enter Tryz.func148,Tryz.ntmps148
 go_wp2_with (first
   | (go_at_call 216;((with_reducible refine (HCA _).out.mono ?_);rintro e w1 ⟨rfl,rfl⟩))
   | (go_at_call 216;((with_reducible refine (HCB _).out.mono ?_);rintro e w1 ⟨rfl,rfl⟩))
   | (go_at_call 215;((with_reducible refine (HVA _).out.mono ?_);rintro e w1 ⟨rfl,hb1⟩))
   | (go_at_call 215;((with_reducible refine (HVB _).out.mono ?_);rintro e w2 ⟨rfl,hb2⟩))
   | (go_at_call 217;((with_reducible refine (rsign_64 _).mono ?_);rintro e w3 ⟨rfl,rfl⟩))
   | (go_at_call 226;((with_reducible refine (HW _).out.mono ?_);rintro e w3 ⟨N,rfl,hN,hb3⟩;have HN:=hid hN;clear hN))
   | (go_at_call 224;((with_reducible refine (HB.out _ HN.out _).mono ?_);rintro e w3 ⟨rfl,rfl⟩)))
 go_ret2
 exact ⟨rfl,bnext (bnext hb1 hb2) hb3⟩
theorem RBin_64_1 (a b:Nat) (ha:a < 18446744073709551616) (hb:b < 18446744073709551616) (w:World) :
  Calls Tryz.prog 148 #[.int .i64 64,.int .i64 1,.int .u64 (a:Int),.int .u64 (b:Int)] w fun e w' => e=.returned (.tuple #[.int .u64 ((binW Ieee.double 9 9223372036854775808 9218868437227405312 9221120237041090560 52 (-1074) 1 (a % 18446744073709551616) (b % 18446744073709551616):Nat):Int),.int .i64 0])∧Below w.heap.size w w':=by
 have HCA:=fun W => hid (rcut_64 a ha W)
 have HCB:=fun W => hid (rcut_64 b hb W)
 have hc:a % 18446744073709551616 < 2 * 9223372036854775808:=by omega
 have hd:b % 18446744073709551616 < 2 * 9223372036854775808:=by omega
 generalize a % 18446744073709551616=c at *
 generalize b % 18446744073709551616=d at *
 have HVA:∀ W,Hid (Calls Tryz.prog 215 #[.int .i64 64,.int .u64 (c:Int)] W (VPost 9223372036854775808 9218868437227405312 c W)):=fun W => hid (by exact value_64 c hc W)
 have HVB:∀ W,Hid (Calls Tryz.prog 215 #[.int .i64 64,.int .u64 (d:Int)] W (VPost 9223372036854775808 9218868437227405312 d W)):=fun W => hid (by exact value_64 d hd W)
 have HNA:Hid (∀ v,ValOf 9223372036854775808 9218868437227405312 c v→(FloatKind.f64.format.order v v != some .eq)=decide (9218868437227405312 < c % 9223372036854775808)):=hid fun v hv => val_ne hc hv
 have HNB:Hid (∀ v,ValOf 9223372036854775808 9218868437227405312 d v→(FloatKind.f64.format.order v v != some .eq)=decide (9218868437227405312 < d % 9223372036854775808)):=hid fun v hv => val_ne hd hv
 by_cases hn:9218868437227405312 < c % 9223372036854775808 ∨ 9218868437227405312 < d % 9223372036854775808
 ·have hres:binW Ieee.double 9 9223372036854775808 9218868437227405312 9221120237041090560 52 (-1074) 1 c d=9221120237041090560:=by unfold binW;rw [if_pos ⟨by decide,show nanW 9223372036854775808 9218868437227405312 c d=true from decide_eq_true hn⟩]
  rw [hres]
  refine RBn_64_1 a b c d _ _ _ _ ?_ HCA HCB HVA HVB HNA HNB w
  by_cases h1:9218868437227405312 < c % 9223372036854775808
  ·exact .inl (decide_eq_true h1)
  ·exact .inr ⟨decide_eq_false h1,decide_eq_true (by omega)⟩
 have hres:binW Ieee.double 9 9223372036854775808 9218868437227405312 9221120237041090560 52 (-1074) 1 c d=(Ieee.double.add c d).getD 9221120237041090560:=by
  unfold binW
  rw [if_neg (by rintro ⟨_,h⟩;exact hn (of_decide_eq_true h)),if_pos rfl]
  exact sumW_add fmt_double 9 9221120237041090560 (by decide) hc hd (by omega) (by omega)
 rw [hres]
 rw [decide_eq_false (show ¬ 9218868437227405312 < c % 9223372036854775808 by omega)] at HNA
 rw [decide_eq_false (show ¬ 9218868437227405312 < d % 9223372036854775808 by omega)] at HNB
 have hvc:∀ {x v:Nat},x % 9223372036854775808≤9218868437227405312→ValOf 9223372036854775808 9218868437227405312 x v→v=x:=fun {x v} hx hv => by
  rcases hv with ⟨h1,_⟩ | ⟨_,_,h3⟩
  ·omega
  ·rcases h3 with ⟨h4,_,_⟩ | ⟨_,_,h5⟩
   ·exact absurd h4 (by decide)
   ·exact h5
 have HVA2:∀ W,Hid (Calls Tryz.prog 215 #[.int .i64 64,.int .u64 (c:Int)] W fun e w' => e=.returned (.float .f64 c)∧Below W.heap.size W w'):=fun W => hid ((HVA W).out.mono fun e w' ⟨v,h1,h2,h3⟩ => ⟨by rw [h1,hvc (by omega) h2],h3⟩)
 have HVB2:∀ W,Hid (Calls Tryz.prog 215 #[.int .i64 64,.int .u64 (d:Int)] W fun e w' => e=.returned (.float .f64 d)∧Below W.heap.size W w'):=fun W => hid ((HVB W).out.mono fun e w' ⟨v,h1,h2,h3⟩ => ⟨by rw [h1,hvc (by omega) h2],h3⟩)
 have t1:=HNA.out c (.inr ⟨by omega,by omega,.inr ⟨rfl,rfl,rfl⟩⟩)
 have t2:=HNB.out d (.inr ⟨by omega,by omega,.inr ⟨rfl,rfl,rfl⟩⟩)
 cases h:Ieee.double.add c d with
 | none =>
  exact RBz_64_1 a b c d h HCA HCB HVA2 HVB2 t1 t2 w
 | some r =>
  have hr:r < 2 * 9223372036854775808∧r % 9223372036854775808≤9218868437227405312:=by
   have h':=h
   unfold Ieee.Format.add at h'
   obtain ⟨D,hD,rfl⟩:=Option.map_eq_some_iff.1 h'
   exact write_fin fmt_double D (sum_notNaN _ _ _ hD)
  exact RBa_64_1 a b c d r h hr HCA HCB HVA2 HVB2 t1 t2 w
theorem arith_64_2 (x y:Nat) (h:Ieee.double.sub x y=none) (w:World):∃ N:Nat,(binOp .sub 159 (.float .f64 x) (.float .f64 y)).run Tryz.prog w=.ok (.float .f64 N) w.drew∧9218868437227405312 < N % 9223372036854775808:=by
 refine ⟨Question.cut (.nanBits .f64 x y) (w.tape w.drawn (.nanBits .f64 x y)),?_,drawn_64 _⟩
 have h':FloatKind.f64.format.sub x y=none:=h
 simp [binOp,Op.floatArith,h',run_choose_drew,Question.forced]
set_option maxRecDepth 20000 in
set_option maxHeartbeats 6400000 in
theorem RBn_64_2 (a b c d:Nat) (V U:Nat→Prop) (nx ny:Bool) (hn:nx=true ∨ (nx=false∧ny=true))
  (HCA:∀ W,Hid (Calls Tryz.prog 216 #[.int .i64 64,.int .u64 (a:Int)] W fun e w' => e=.returned (.int .u64 (c:Int))∧W=w'))
  (HCB:∀ W,Hid (Calls Tryz.prog 216 #[.int .i64 64,.int .u64 (b:Int)] W fun e w' => e=.returned (.int .u64 (d:Int))∧W=w'))
  (HVA:∀ W,Hid (Calls Tryz.prog 215 #[.int .i64 64,.int .u64 (c:Int)] W fun e w' => ∃ v:Nat,e=.returned (.float .f64 v)∧V v∧Below W.heap.size W w'))
  (HVB:∀ W,Hid (Calls Tryz.prog 215 #[.int .i64 64,.int .u64 (d:Int)] W fun e w' => ∃ v:Nat,e=.returned (.float .f64 v)∧U v∧Below W.heap.size W w'))
  (HNA:Hid (∀ v,V v→(FloatKind.f64.format.order v v != some .eq)=nx))
  (HNB:Hid (∀ u,U u→(FloatKind.f64.format.order u u != some .eq)=ny)) (w:World) :
  Calls Tryz.prog 148 #[.int .i64 64,.int .i64 2,.int .u64 (a:Int),.int .u64 (b:Int)] w fun e w' => e=.returned (.tuple #[.int .u64 9221120237041090560,.int .i64 0])∧Below w.heap.size w w':=by
 rcases hn with rfl | ⟨rfl,rfl⟩
 all_goals
  go_enter Tryz.func148,Tryz.ntmps148
  go_wp2_with (first
   | (go_at_call 216;((with_reducible refine (HCA _).out.mono ?_);rintro e w1 ⟨rfl,rfl⟩))
   | (go_at_call 216;((with_reducible refine (HCB _).out.mono ?_);rintro e w1 ⟨rfl,rfl⟩))
   | (go_at_call 215;((with_reducible refine (HVA _).out.mono ?_);rintro e w1 ⟨v,rfl,hv,hb1⟩;have t1:=HNA.out v hv))
   | (go_at_call 215;((with_reducible refine (HVB _).out.mono ?_);rintro e w2 ⟨u,rfl,hu,hb2⟩;have t3:=HNB.out u hu))
   | (go_at_call 217;((with_reducible refine (rsign_64 _).mono ?_);rintro e w3 ⟨rfl,rfl⟩))
   | (go_at_call 225;((with_reducible refine (rcan_64 _).mono ?_);rintro e w3 ⟨rfl,rfl⟩)))
  go_ret2
  exact ⟨rfl,bnext hb1 hb2⟩
theorem worked_2 (x y r:Nat) (h:Ieee.double.sub x y=some r) (w:World):Calls Tryz.prog 226 #[.int .i64 2,.float .f64 x,.float .f64 y] w fun e w' => e=.returned (.float .f64 r)∧w=w':=by
 have t:∀ W:World,(binOp .sub 159 (.float .f64 x) (.float .f64 y)).run Tryz.prog W=.ok (.float .f64 r) W:=fun W => run_float_arith W .sub 48 .f64 x y r h
 clear h
 go_enter Tryz.func226,Tryz.ntmps226
 go_wp2
 go_ret
 exact ⟨rfl,rfl⟩
theorem worked_2_nan (x y:Nat) (h:Ieee.double.sub x y=none) (w:World):Calls Tryz.prog 226 #[.int .i64 2,.float .f64 x,.float .f64 y] w fun e w' => ∃ N:Nat,e=.returned (.float .f64 N)∧9218868437227405312 < N % 9223372036854775808∧Below w.heap.size w w':=by
 obtain ⟨N,hN1,hN2⟩:=arith_64_2 x y h w
 have HN:=hid hN2
 clear h hN2
 go_enter Tryz.func226,Tryz.ntmps226
 go_wp2
 go_ret
 exact ⟨N,rfl,HN.out,(Below.refl _ _).drew⟩
set_option maxRecDepth 20000 in
set_option maxHeartbeats 6400000 in
theorem RBa_64_2 (a b c d r:Nat) (h:Ieee.double.sub c d=some r) (hr:r < 2 * 9223372036854775808∧r % 9223372036854775808≤9218868437227405312)
  (HCA:∀ W,Hid (Calls Tryz.prog 216 #[.int .i64 64,.int .u64 (a:Int)] W fun e w' => e=.returned (.int .u64 (c:Int))∧W=w'))
  (HCB:∀ W,Hid (Calls Tryz.prog 216 #[.int .i64 64,.int .u64 (b:Int)] W fun e w' => e=.returned (.int .u64 (d:Int))∧W=w'))
  (HVA:∀ W,Hid (Calls Tryz.prog 215 #[.int .i64 64,.int .u64 (c:Int)] W fun e w' => e=.returned (.float .f64 c)∧Below W.heap.size W w'))
  (HVB:∀ W,Hid (Calls Tryz.prog 215 #[.int .i64 64,.int .u64 (d:Int)] W fun e w' => e=.returned (.float .f64 d)∧Below W.heap.size W w'))
  (t1:(FloatKind.f64.format.order c c != some .eq)=false) (t2:(FloatKind.f64.format.order d d != some .eq)=false) (w:World) :
  Calls Tryz.prog 148 #[.int .i64 64,.int .i64 2,.int .u64 (a:Int),.int .u64 (b:Int)] w fun e w' => e=.returned (.tuple #[.int .u64 (r:Int),.int .i64 0])∧Below w.heap.size w w':=by
 have HW:=fun W => hid (worked_2 c d r h W)
 have HB:=fun W => hid (BB_64 r hr.1 hr.2 W)
 clear h hr
 go_enter Tryz.func148,Tryz.ntmps148
 go_wp2_with (first
   | (go_at_call 216;((with_reducible refine (HCA _).out.mono ?_);rintro e w1 ⟨rfl,rfl⟩))
   | (go_at_call 216;((with_reducible refine (HCB _).out.mono ?_);rintro e w1 ⟨rfl,rfl⟩))
   | (go_at_call 215;((with_reducible refine (HVA _).out.mono ?_);rintro e w1 ⟨rfl,hb1⟩))
   | (go_at_call 215;((with_reducible refine (HVB _).out.mono ?_);rintro e w2 ⟨rfl,hb2⟩))
   | (go_at_call 217;((with_reducible refine (rsign_64 _).mono ?_);rintro e w3 ⟨rfl,rfl⟩))
   | (go_at_call 226;((with_reducible refine (HW _).out.mono ?_);rintro e w3 ⟨rfl,rfl⟩))
   | (go_at_call 224;((with_reducible refine (HB _).out.mono ?_);rintro e w3 ⟨rfl,rfl⟩)))
 go_ret2
 exact ⟨rfl,bnext hb1 hb2⟩
set_option maxRecDepth 20000 in
set_option maxHeartbeats 6400000 in
theorem RBz_64_2 (a b c d:Nat) (h:Ieee.double.sub c d=none)
  (HCA:∀ W,Hid (Calls Tryz.prog 216 #[.int .i64 64,.int .u64 (a:Int)] W fun e w' => e=.returned (.int .u64 (c:Int))∧W=w'))
  (HCB:∀ W,Hid (Calls Tryz.prog 216 #[.int .i64 64,.int .u64 (b:Int)] W fun e w' => e=.returned (.int .u64 (d:Int))∧W=w'))
  (HVA:∀ W,Hid (Calls Tryz.prog 215 #[.int .i64 64,.int .u64 (c:Int)] W fun e w' => e=.returned (.float .f64 c)∧Below W.heap.size W w'))
  (HVB:∀ W,Hid (Calls Tryz.prog 215 #[.int .i64 64,.int .u64 (d:Int)] W fun e w' => e=.returned (.float .f64 d)∧Below W.heap.size W w'))
  (t1:(FloatKind.f64.format.order c c != some .eq)=false) (t2:(FloatKind.f64.format.order d d != some .eq)=false) (w:World) :
  Calls Tryz.prog 148 #[.int .i64 64,.int .i64 2,.int .u64 (a:Int),.int .u64 (b:Int)] w fun e w' => e=.returned (.tuple #[.int .u64 9221120237041090560,.int .i64 0])∧Below w.heap.size w w':=by
 have HW:=fun W => hid (worked_2_nan c d h W)
 have HB:=hid BB_64_nan
 clear h
 go_enter Tryz.func148,Tryz.ntmps148
 go_wp2_with (first
   | (go_at_call 216;((with_reducible refine (HCA _).out.mono ?_);rintro e w1 ⟨rfl,rfl⟩))
   | (go_at_call 216;((with_reducible refine (HCB _).out.mono ?_);rintro e w1 ⟨rfl,rfl⟩))
   | (go_at_call 215;((with_reducible refine (HVA _).out.mono ?_);rintro e w1 ⟨rfl,hb1⟩))
   | (go_at_call 215;((with_reducible refine (HVB _).out.mono ?_);rintro e w2 ⟨rfl,hb2⟩))
   | (go_at_call 217;((with_reducible refine (rsign_64 _).mono ?_);rintro e w3 ⟨rfl,rfl⟩))
   | (go_at_call 226;((with_reducible refine (HW _).out.mono ?_);rintro e w3 ⟨N,rfl,hN,hb3⟩;have HN:=hid hN;clear hN))
   | (go_at_call 224;((with_reducible refine (HB.out _ HN.out _).mono ?_);rintro e w3 ⟨rfl,rfl⟩)))
 go_ret2
 exact ⟨rfl,bnext (bnext hb1 hb2) hb3⟩
theorem RBin_64_2 (a b:Nat) (ha:a < 18446744073709551616) (hb:b < 18446744073709551616) (w:World) :
  Calls Tryz.prog 148 #[.int .i64 64,.int .i64 2,.int .u64 (a:Int),.int .u64 (b:Int)] w fun e w' => e=.returned (.tuple #[.int .u64 ((binW Ieee.double 9 9223372036854775808 9218868437227405312 9221120237041090560 52 (-1074) 2 (a % 18446744073709551616) (b % 18446744073709551616):Nat):Int),.int .i64 0])∧Below w.heap.size w w':=by
 have HCA:=fun W => hid (rcut_64 a ha W)
 have HCB:=fun W => hid (rcut_64 b hb W)
 have hc:a % 18446744073709551616 < 2 * 9223372036854775808:=by omega
 have hd:b % 18446744073709551616 < 2 * 9223372036854775808:=by omega
 generalize a % 18446744073709551616=c at *
 generalize b % 18446744073709551616=d at *
 have HVA:∀ W,Hid (Calls Tryz.prog 215 #[.int .i64 64,.int .u64 (c:Int)] W (VPost 9223372036854775808 9218868437227405312 c W)):=fun W => hid (by exact value_64 c hc W)
 have HVB:∀ W,Hid (Calls Tryz.prog 215 #[.int .i64 64,.int .u64 (d:Int)] W (VPost 9223372036854775808 9218868437227405312 d W)):=fun W => hid (by exact value_64 d hd W)
 have HNA:Hid (∀ v,ValOf 9223372036854775808 9218868437227405312 c v→(FloatKind.f64.format.order v v != some .eq)=decide (9218868437227405312 < c % 9223372036854775808)):=hid fun v hv => val_ne hc hv
 have HNB:Hid (∀ v,ValOf 9223372036854775808 9218868437227405312 d v→(FloatKind.f64.format.order v v != some .eq)=decide (9218868437227405312 < d % 9223372036854775808)):=hid fun v hv => val_ne hd hv
 by_cases hn:9218868437227405312 < c % 9223372036854775808 ∨ 9218868437227405312 < d % 9223372036854775808
 ·have hres:binW Ieee.double 9 9223372036854775808 9218868437227405312 9221120237041090560 52 (-1074) 2 c d=9221120237041090560:=by unfold binW;rw [if_pos ⟨by decide,show nanW 9223372036854775808 9218868437227405312 c d=true from decide_eq_true hn⟩]
  rw [hres]
  refine RBn_64_2 a b c d _ _ _ _ ?_ HCA HCB HVA HVB HNA HNB w
  by_cases h1:9218868437227405312 < c % 9223372036854775808
  ·exact .inl (decide_eq_true h1)
  ·exact .inr ⟨decide_eq_false h1,decide_eq_true (by omega)⟩
 have hres:binW Ieee.double 9 9223372036854775808 9218868437227405312 9221120237041090560 52 (-1074) 2 c d=(Ieee.double.sub c d).getD 9221120237041090560:=by
  unfold binW
  rw [if_neg (by rintro ⟨_,h⟩;exact hn (of_decide_eq_true h)),if_neg (by decide),if_pos rfl]
  have ho:=opp_lt (SB:=9223372036854775808) hd
  rw [sumW_add fmt_double 9 9221120237041090560 (by decide) hc ho.1 (by omega) (by rw [ho.2.1];omega),add_opp fmt_double hc hd (by omega)]
 rw [hres]
 rw [decide_eq_false (show ¬ 9218868437227405312 < c % 9223372036854775808 by omega)] at HNA
 rw [decide_eq_false (show ¬ 9218868437227405312 < d % 9223372036854775808 by omega)] at HNB
 have hvc:∀ {x v:Nat},x % 9223372036854775808≤9218868437227405312→ValOf 9223372036854775808 9218868437227405312 x v→v=x:=fun {x v} hx hv => by
  rcases hv with ⟨h1,_⟩ | ⟨_,_,h3⟩
  ·omega
  ·rcases h3 with ⟨h4,_,_⟩ | ⟨_,_,h5⟩
   ·exact absurd h4 (by decide)
   ·exact h5
 have HVA2:∀ W,Hid (Calls Tryz.prog 215 #[.int .i64 64,.int .u64 (c:Int)] W fun e w' => e=.returned (.float .f64 c)∧Below W.heap.size W w'):=fun W => hid ((HVA W).out.mono fun e w' ⟨v,h1,h2,h3⟩ => ⟨by rw [h1,hvc (by omega) h2],h3⟩)
 have HVB2:∀ W,Hid (Calls Tryz.prog 215 #[.int .i64 64,.int .u64 (d:Int)] W fun e w' => e=.returned (.float .f64 d)∧Below W.heap.size W w'):=fun W => hid ((HVB W).out.mono fun e w' ⟨v,h1,h2,h3⟩ => ⟨by rw [h1,hvc (by omega) h2],h3⟩)
 have t1:=HNA.out c (.inr ⟨by omega,by omega,.inr ⟨rfl,rfl,rfl⟩⟩)
 have t2:=HNB.out d (.inr ⟨by omega,by omega,.inr ⟨rfl,rfl,rfl⟩⟩)
 cases h:Ieee.double.sub c d with
 | none =>
  exact RBz_64_2 a b c d h HCA HCB HVA2 HVB2 t1 t2 w
 | some r =>
  have hr:r < 2 * 9223372036854775808∧r % 9223372036854775808≤9218868437227405312:=by
   have h':=h
   unfold Ieee.Format.sub at h'
   obtain ⟨D,hD,rfl⟩:=Option.map_eq_some_iff.1 h'
   exact write_fin fmt_double D (sum_notNaN _ _ _ hD)
  exact RBa_64_2 a b c d r h hr HCA HCB HVA2 HVB2 t1 t2 w
theorem arith_64_3 (x y:Nat) (h:Ieee.double.mul x y=none) (w:World):∃ N:Nat,(binOp .mul 159 (.float .f64 x) (.float .f64 y)).run Tryz.prog w=.ok (.float .f64 N) w.drew∧9218868437227405312 < N % 9223372036854775808:=by
 refine ⟨Question.cut (.nanBits .f64 x y) (w.tape w.drawn (.nanBits .f64 x y)),?_,drawn_64 _⟩
 have h':FloatKind.f64.format.mul x y=none:=h
 simp [binOp,Op.floatArith,h',run_choose_drew,Question.forced]
set_option maxRecDepth 20000 in
set_option maxHeartbeats 6400000 in
theorem RBn_64_3 (a b c d:Nat) (V U:Nat→Prop) (nx ny:Bool) (hn:nx=true ∨ (nx=false∧ny=true))
  (HCA:∀ W,Hid (Calls Tryz.prog 216 #[.int .i64 64,.int .u64 (a:Int)] W fun e w' => e=.returned (.int .u64 (c:Int))∧W=w'))
  (HCB:∀ W,Hid (Calls Tryz.prog 216 #[.int .i64 64,.int .u64 (b:Int)] W fun e w' => e=.returned (.int .u64 (d:Int))∧W=w'))
  (HVA:∀ W,Hid (Calls Tryz.prog 215 #[.int .i64 64,.int .u64 (c:Int)] W fun e w' => ∃ v:Nat,e=.returned (.float .f64 v)∧V v∧Below W.heap.size W w'))
  (HVB:∀ W,Hid (Calls Tryz.prog 215 #[.int .i64 64,.int .u64 (d:Int)] W fun e w' => ∃ v:Nat,e=.returned (.float .f64 v)∧U v∧Below W.heap.size W w'))
  (HNA:Hid (∀ v,V v→(FloatKind.f64.format.order v v != some .eq)=nx))
  (HNB:Hid (∀ u,U u→(FloatKind.f64.format.order u u != some .eq)=ny)) (w:World) :
  Calls Tryz.prog 148 #[.int .i64 64,.int .i64 3,.int .u64 (a:Int),.int .u64 (b:Int)] w fun e w' => e=.returned (.tuple #[.int .u64 9221120237041090560,.int .i64 0])∧Below w.heap.size w w':=by
 rcases hn with rfl | ⟨rfl,rfl⟩
 all_goals
  go_enter Tryz.func148,Tryz.ntmps148
  go_wp2_with (first
   | (go_at_call 216;((with_reducible refine (HCA _).out.mono ?_);rintro e w1 ⟨rfl,rfl⟩))
   | (go_at_call 216;((with_reducible refine (HCB _).out.mono ?_);rintro e w1 ⟨rfl,rfl⟩))
   | (go_at_call 215;((with_reducible refine (HVA _).out.mono ?_);rintro e w1 ⟨v,rfl,hv,hb1⟩;have t1:=HNA.out v hv))
   | (go_at_call 215;((with_reducible refine (HVB _).out.mono ?_);rintro e w2 ⟨u,rfl,hu,hb2⟩;have t3:=HNB.out u hu))
   | (go_at_call 217;((with_reducible refine (rsign_64 _).mono ?_);rintro e w3 ⟨rfl,rfl⟩))
   | (go_at_call 225;((with_reducible refine (rcan_64 _).mono ?_);rintro e w3 ⟨rfl,rfl⟩)))
  go_ret2
  exact ⟨rfl,bnext hb1 hb2⟩
theorem worked_3 (x y r:Nat) (h:Ieee.double.mul x y=some r) (w:World):Calls Tryz.prog 226 #[.int .i64 3,.float .f64 x,.float .f64 y] w fun e w' => e=.returned (.float .f64 r)∧w=w':=by
 have t:∀ W:World,(binOp .mul 159 (.float .f64 x) (.float .f64 y)).run Tryz.prog W=.ok (.float .f64 r) W:=fun W => run_float_arith W .mul 48 .f64 x y r h
 clear h
 go_enter Tryz.func226,Tryz.ntmps226
 go_wp2
 go_ret
 exact ⟨rfl,rfl⟩
theorem worked_3_nan (x y:Nat) (h:Ieee.double.mul x y=none) (w:World):Calls Tryz.prog 226 #[.int .i64 3,.float .f64 x,.float .f64 y] w fun e w' => ∃ N:Nat,e=.returned (.float .f64 N)∧9218868437227405312 < N % 9223372036854775808∧Below w.heap.size w w':=by
 obtain ⟨N,hN1,hN2⟩:=arith_64_3 x y h w
 have HN:=hid hN2
 clear h hN2
 go_enter Tryz.func226,Tryz.ntmps226
 go_wp2
 go_ret
 exact ⟨N,rfl,HN.out,(Below.refl _ _).drew⟩
set_option maxRecDepth 20000 in
set_option maxHeartbeats 6400000 in
theorem RBa_64_3 (a b c d r:Nat) (h:Ieee.double.mul c d=some r) (hr:r < 2 * 9223372036854775808∧r % 9223372036854775808≤9218868437227405312)
  (HCA:∀ W,Hid (Calls Tryz.prog 216 #[.int .i64 64,.int .u64 (a:Int)] W fun e w' => e=.returned (.int .u64 (c:Int))∧W=w'))
  (HCB:∀ W,Hid (Calls Tryz.prog 216 #[.int .i64 64,.int .u64 (b:Int)] W fun e w' => e=.returned (.int .u64 (d:Int))∧W=w'))
  (HVA:∀ W,Hid (Calls Tryz.prog 215 #[.int .i64 64,.int .u64 (c:Int)] W fun e w' => e=.returned (.float .f64 c)∧Below W.heap.size W w'))
  (HVB:∀ W,Hid (Calls Tryz.prog 215 #[.int .i64 64,.int .u64 (d:Int)] W fun e w' => e=.returned (.float .f64 d)∧Below W.heap.size W w'))
  (t1:(FloatKind.f64.format.order c c != some .eq)=false) (t2:(FloatKind.f64.format.order d d != some .eq)=false) (w:World) :
  Calls Tryz.prog 148 #[.int .i64 64,.int .i64 3,.int .u64 (a:Int),.int .u64 (b:Int)] w fun e w' => e=.returned (.tuple #[.int .u64 (r:Int),.int .i64 0])∧Below w.heap.size w w':=by
 have HW:=fun W => hid (worked_3 c d r h W)
 have HB:=fun W => hid (BB_64 r hr.1 hr.2 W)
 clear h hr
 go_enter Tryz.func148,Tryz.ntmps148
 go_wp2_with (first
   | (go_at_call 216;((with_reducible refine (HCA _).out.mono ?_);rintro e w1 ⟨rfl,rfl⟩))
   | (go_at_call 216;((with_reducible refine (HCB _).out.mono ?_);rintro e w1 ⟨rfl,rfl⟩))
   | (go_at_call 215;((with_reducible refine (HVA _).out.mono ?_);rintro e w1 ⟨rfl,hb1⟩))
   | (go_at_call 215;((with_reducible refine (HVB _).out.mono ?_);rintro e w2 ⟨rfl,hb2⟩))
   | (go_at_call 217;((with_reducible refine (rsign_64 _).mono ?_);rintro e w3 ⟨rfl,rfl⟩))
   | (go_at_call 226;((with_reducible refine (HW _).out.mono ?_);rintro e w3 ⟨rfl,rfl⟩))
   | (go_at_call 224;((with_reducible refine (HB _).out.mono ?_);rintro e w3 ⟨rfl,rfl⟩)))
 go_ret2
 exact ⟨rfl,bnext hb1 hb2⟩
set_option maxRecDepth 20000 in
set_option maxHeartbeats 6400000 in
theorem RBz_64_3 (a b c d:Nat) (h:Ieee.double.mul c d=none)
  (HCA:∀ W,Hid (Calls Tryz.prog 216 #[.int .i64 64,.int .u64 (a:Int)] W fun e w' => e=.returned (.int .u64 (c:Int))∧W=w'))
  (HCB:∀ W,Hid (Calls Tryz.prog 216 #[.int .i64 64,.int .u64 (b:Int)] W fun e w' => e=.returned (.int .u64 (d:Int))∧W=w'))
  (HVA:∀ W,Hid (Calls Tryz.prog 215 #[.int .i64 64,.int .u64 (c:Int)] W fun e w' => e=.returned (.float .f64 c)∧Below W.heap.size W w'))
  (HVB:∀ W,Hid (Calls Tryz.prog 215 #[.int .i64 64,.int .u64 (d:Int)] W fun e w' => e=.returned (.float .f64 d)∧Below W.heap.size W w'))
  (t1:(FloatKind.f64.format.order c c != some .eq)=false) (t2:(FloatKind.f64.format.order d d != some .eq)=false) (w:World) :
  Calls Tryz.prog 148 #[.int .i64 64,.int .i64 3,.int .u64 (a:Int),.int .u64 (b:Int)] w fun e w' => e=.returned (.tuple #[.int .u64 9221120237041090560,.int .i64 0])∧Below w.heap.size w w':=by
 have HW:=fun W => hid (worked_3_nan c d h W)
 have HB:=hid BB_64_nan
 clear h
 go_enter Tryz.func148,Tryz.ntmps148
 go_wp2_with (first
   | (go_at_call 216;((with_reducible refine (HCA _).out.mono ?_);rintro e w1 ⟨rfl,rfl⟩))
   | (go_at_call 216;((with_reducible refine (HCB _).out.mono ?_);rintro e w1 ⟨rfl,rfl⟩))
   | (go_at_call 215;((with_reducible refine (HVA _).out.mono ?_);rintro e w1 ⟨rfl,hb1⟩))
   | (go_at_call 215;((with_reducible refine (HVB _).out.mono ?_);rintro e w2 ⟨rfl,hb2⟩))
   | (go_at_call 217;((with_reducible refine (rsign_64 _).mono ?_);rintro e w3 ⟨rfl,rfl⟩))
   | (go_at_call 226;((with_reducible refine (HW _).out.mono ?_);rintro e w3 ⟨N,rfl,hN,hb3⟩;have HN:=hid hN;clear hN))
   | (go_at_call 224;((with_reducible refine (HB.out _ HN.out _).mono ?_);rintro e w3 ⟨rfl,rfl⟩)))
 go_ret2
 exact ⟨rfl,bnext (bnext hb1 hb2) hb3⟩
theorem RBin_64_3 (a b:Nat) (ha:a < 18446744073709551616) (hb:b < 18446744073709551616) (w:World) :
  Calls Tryz.prog 148 #[.int .i64 64,.int .i64 3,.int .u64 (a:Int),.int .u64 (b:Int)] w fun e w' => e=.returned (.tuple #[.int .u64 ((binW Ieee.double 9 9223372036854775808 9218868437227405312 9221120237041090560 52 (-1074) 3 (a % 18446744073709551616) (b % 18446744073709551616):Nat):Int),.int .i64 0])∧Below w.heap.size w w':=by
 have HCA:=fun W => hid (rcut_64 a ha W)
 have HCB:=fun W => hid (rcut_64 b hb W)
 have hc:a % 18446744073709551616 < 2 * 9223372036854775808:=by omega
 have hd:b % 18446744073709551616 < 2 * 9223372036854775808:=by omega
 generalize a % 18446744073709551616=c at *
 generalize b % 18446744073709551616=d at *
 have HVA:∀ W,Hid (Calls Tryz.prog 215 #[.int .i64 64,.int .u64 (c:Int)] W (VPost 9223372036854775808 9218868437227405312 c W)):=fun W => hid (by exact value_64 c hc W)
 have HVB:∀ W,Hid (Calls Tryz.prog 215 #[.int .i64 64,.int .u64 (d:Int)] W (VPost 9223372036854775808 9218868437227405312 d W)):=fun W => hid (by exact value_64 d hd W)
 have HNA:Hid (∀ v,ValOf 9223372036854775808 9218868437227405312 c v→(FloatKind.f64.format.order v v != some .eq)=decide (9218868437227405312 < c % 9223372036854775808)):=hid fun v hv => val_ne hc hv
 have HNB:Hid (∀ v,ValOf 9223372036854775808 9218868437227405312 d v→(FloatKind.f64.format.order v v != some .eq)=decide (9218868437227405312 < d % 9223372036854775808)):=hid fun v hv => val_ne hd hv
 by_cases hn:9218868437227405312 < c % 9223372036854775808 ∨ 9218868437227405312 < d % 9223372036854775808
 ·have hres:binW Ieee.double 9 9223372036854775808 9218868437227405312 9221120237041090560 52 (-1074) 3 c d=9221120237041090560:=by unfold binW;rw [if_pos ⟨by decide,show nanW 9223372036854775808 9218868437227405312 c d=true from decide_eq_true hn⟩]
  rw [hres]
  refine RBn_64_3 a b c d _ _ _ _ ?_ HCA HCB HVA HVB HNA HNB w
  by_cases h1:9218868437227405312 < c % 9223372036854775808
  ·exact .inl (decide_eq_true h1)
  ·exact .inr ⟨decide_eq_false h1,decide_eq_true (by omega)⟩
 have hres:binW Ieee.double 9 9223372036854775808 9218868437227405312 9221120237041090560 52 (-1074) 3 c d=(Ieee.double.mul c d).getD 9221120237041090560:=by
  unfold binW
  rw [if_neg (by rintro ⟨_,h⟩;exact hn (of_decide_eq_true h)),if_neg (by decide),if_neg (by decide),if_pos rfl]
 rw [hres]
 rw [decide_eq_false (show ¬ 9218868437227405312 < c % 9223372036854775808 by omega)] at HNA
 rw [decide_eq_false (show ¬ 9218868437227405312 < d % 9223372036854775808 by omega)] at HNB
 have hvc:∀ {x v:Nat},x % 9223372036854775808≤9218868437227405312→ValOf 9223372036854775808 9218868437227405312 x v→v=x:=fun {x v} hx hv => by
  rcases hv with ⟨h1,_⟩ | ⟨_,_,h3⟩
  ·omega
  ·rcases h3 with ⟨h4,_,_⟩ | ⟨_,_,h5⟩
   ·exact absurd h4 (by decide)
   ·exact h5
 have HVA2:∀ W,Hid (Calls Tryz.prog 215 #[.int .i64 64,.int .u64 (c:Int)] W fun e w' => e=.returned (.float .f64 c)∧Below W.heap.size W w'):=fun W => hid ((HVA W).out.mono fun e w' ⟨v,h1,h2,h3⟩ => ⟨by rw [h1,hvc (by omega) h2],h3⟩)
 have HVB2:∀ W,Hid (Calls Tryz.prog 215 #[.int .i64 64,.int .u64 (d:Int)] W fun e w' => e=.returned (.float .f64 d)∧Below W.heap.size W w'):=fun W => hid ((HVB W).out.mono fun e w' ⟨v,h1,h2,h3⟩ => ⟨by rw [h1,hvc (by omega) h2],h3⟩)
 have t1:=HNA.out c (.inr ⟨by omega,by omega,.inr ⟨rfl,rfl,rfl⟩⟩)
 have t2:=HNB.out d (.inr ⟨by omega,by omega,.inr ⟨rfl,rfl,rfl⟩⟩)
 cases h:Ieee.double.mul c d with
 | none =>
  exact RBz_64_3 a b c d h HCA HCB HVA2 HVB2 t1 t2 w
 | some r =>
  have hr:r < 2 * 9223372036854775808∧r % 9223372036854775808≤9218868437227405312:=by
   have h':=h
   unfold Ieee.Format.mul at h'
   obtain ⟨D,hD,rfl⟩:=Option.map_eq_some_iff.1 h'
   exact write_fin fmt_double D (product_notNaN _ _ _ hD)
  exact RBa_64_3 a b c d r h hr HCA HCB HVA2 HVB2 t1 t2 w
theorem arith_64_4 (x y:Nat) (h:Ieee.double.div x y=none) (w:World):∃ N:Nat,(binOp .quo 159 (.float .f64 x) (.float .f64 y)).run Tryz.prog w=.ok (.float .f64 N) w.drew∧9218868437227405312 < N % 9223372036854775808:=by
 refine ⟨Question.cut (.nanBits .f64 x y) (w.tape w.drawn (.nanBits .f64 x y)),?_,drawn_64 _⟩
 have h':FloatKind.f64.format.div x y=none:=h
 simp [binOp,Op.floatArith,h',run_choose_drew,Question.forced]
set_option maxRecDepth 20000 in
set_option maxHeartbeats 6400000 in
theorem RBn_64_4 (a b c d:Nat) (V U:Nat→Prop) (nx ny:Bool) (hn:nx=true ∨ (nx=false∧ny=true))
  (HCA:∀ W,Hid (Calls Tryz.prog 216 #[.int .i64 64,.int .u64 (a:Int)] W fun e w' => e=.returned (.int .u64 (c:Int))∧W=w'))
  (HCB:∀ W,Hid (Calls Tryz.prog 216 #[.int .i64 64,.int .u64 (b:Int)] W fun e w' => e=.returned (.int .u64 (d:Int))∧W=w'))
  (HVA:∀ W,Hid (Calls Tryz.prog 215 #[.int .i64 64,.int .u64 (c:Int)] W fun e w' => ∃ v:Nat,e=.returned (.float .f64 v)∧V v∧Below W.heap.size W w'))
  (HVB:∀ W,Hid (Calls Tryz.prog 215 #[.int .i64 64,.int .u64 (d:Int)] W fun e w' => ∃ v:Nat,e=.returned (.float .f64 v)∧U v∧Below W.heap.size W w'))
  (HNA:Hid (∀ v,V v→(FloatKind.f64.format.order v v != some .eq)=nx))
  (HNB:Hid (∀ u,U u→(FloatKind.f64.format.order u u != some .eq)=ny)) (w:World) :
  Calls Tryz.prog 148 #[.int .i64 64,.int .i64 4,.int .u64 (a:Int),.int .u64 (b:Int)] w fun e w' => e=.returned (.tuple #[.int .u64 9221120237041090560,.int .i64 0])∧Below w.heap.size w w':=by
 rcases hn with rfl | ⟨rfl,rfl⟩
 all_goals
  go_enter Tryz.func148,Tryz.ntmps148
  go_wp2_with (first
   | (go_at_call 216;((with_reducible refine (HCA _).out.mono ?_);rintro e w1 ⟨rfl,rfl⟩))
   | (go_at_call 216;((with_reducible refine (HCB _).out.mono ?_);rintro e w1 ⟨rfl,rfl⟩))
   | (go_at_call 215;((with_reducible refine (HVA _).out.mono ?_);rintro e w1 ⟨v,rfl,hv,hb1⟩;have t1:=HNA.out v hv))
   | (go_at_call 215;((with_reducible refine (HVB _).out.mono ?_);rintro e w2 ⟨u,rfl,hu,hb2⟩;have t3:=HNB.out u hu))
   | (go_at_call 217;((with_reducible refine (rsign_64 _).mono ?_);rintro e w3 ⟨rfl,rfl⟩))
   | (go_at_call 225;((with_reducible refine (rcan_64 _).mono ?_);rintro e w3 ⟨rfl,rfl⟩)))
  go_ret2
  exact ⟨rfl,bnext hb1 hb2⟩
theorem worked_4 (x y r:Nat) (h:Ieee.double.div x y=some r) (w:World):Calls Tryz.prog 226 #[.int .i64 4,.float .f64 x,.float .f64 y] w fun e w' => e=.returned (.float .f64 r)∧w=w':=by
 have t:∀ W:World,(binOp .quo 159 (.float .f64 x) (.float .f64 y)).run Tryz.prog W=.ok (.float .f64 r) W:=fun W => run_float_arith W .quo 48 .f64 x y r h
 clear h
 go_enter Tryz.func226,Tryz.ntmps226
 go_wp2
 go_ret
 exact ⟨rfl,rfl⟩
theorem worked_4_nan (x y:Nat) (h:Ieee.double.div x y=none) (w:World):Calls Tryz.prog 226 #[.int .i64 4,.float .f64 x,.float .f64 y] w fun e w' => ∃ N:Nat,e=.returned (.float .f64 N)∧9218868437227405312 < N % 9223372036854775808∧Below w.heap.size w w':=by
 obtain ⟨N,hN1,hN2⟩:=arith_64_4 x y h w
 have HN:=hid hN2
 clear h hN2
 go_enter Tryz.func226,Tryz.ntmps226
 go_wp2
 go_ret
 exact ⟨N,rfl,HN.out,(Below.refl _ _).drew⟩
set_option maxRecDepth 20000 in
set_option maxHeartbeats 6400000 in
theorem RBa_64_4 (a b c d r:Nat) (h:Ieee.double.div c d=some r) (hr:r < 2 * 9223372036854775808∧r % 9223372036854775808≤9218868437227405312)
  (HCA:∀ W,Hid (Calls Tryz.prog 216 #[.int .i64 64,.int .u64 (a:Int)] W fun e w' => e=.returned (.int .u64 (c:Int))∧W=w'))
  (HCB:∀ W,Hid (Calls Tryz.prog 216 #[.int .i64 64,.int .u64 (b:Int)] W fun e w' => e=.returned (.int .u64 (d:Int))∧W=w'))
  (HVA:∀ W,Hid (Calls Tryz.prog 215 #[.int .i64 64,.int .u64 (c:Int)] W fun e w' => e=.returned (.float .f64 c)∧Below W.heap.size W w'))
  (HVB:∀ W,Hid (Calls Tryz.prog 215 #[.int .i64 64,.int .u64 (d:Int)] W fun e w' => e=.returned (.float .f64 d)∧Below W.heap.size W w'))
  (t1:(FloatKind.f64.format.order c c != some .eq)=false) (t2:(FloatKind.f64.format.order d d != some .eq)=false) (w:World) :
  Calls Tryz.prog 148 #[.int .i64 64,.int .i64 4,.int .u64 (a:Int),.int .u64 (b:Int)] w fun e w' => e=.returned (.tuple #[.int .u64 (r:Int),.int .i64 0])∧Below w.heap.size w w':=by
 have HW:=fun W => hid (worked_4 c d r h W)
 have HB:=fun W => hid (BB_64 r hr.1 hr.2 W)
 clear h hr
 go_enter Tryz.func148,Tryz.ntmps148
 go_wp2_with (first
   | (go_at_call 216;((with_reducible refine (HCA _).out.mono ?_);rintro e w1 ⟨rfl,rfl⟩))
   | (go_at_call 216;((with_reducible refine (HCB _).out.mono ?_);rintro e w1 ⟨rfl,rfl⟩))
   | (go_at_call 215;((with_reducible refine (HVA _).out.mono ?_);rintro e w1 ⟨rfl,hb1⟩))
   | (go_at_call 215;((with_reducible refine (HVB _).out.mono ?_);rintro e w2 ⟨rfl,hb2⟩))
   | (go_at_call 217;((with_reducible refine (rsign_64 _).mono ?_);rintro e w3 ⟨rfl,rfl⟩))
   | (go_at_call 226;((with_reducible refine (HW _).out.mono ?_);rintro e w3 ⟨rfl,rfl⟩))
   | (go_at_call 224;((with_reducible refine (HB _).out.mono ?_);rintro e w3 ⟨rfl,rfl⟩)))
 go_ret2
 exact ⟨rfl,bnext hb1 hb2⟩
set_option maxRecDepth 20000 in
set_option maxHeartbeats 6400000 in
theorem RBz_64_4 (a b c d:Nat) (h:Ieee.double.div c d=none)
  (HCA:∀ W,Hid (Calls Tryz.prog 216 #[.int .i64 64,.int .u64 (a:Int)] W fun e w' => e=.returned (.int .u64 (c:Int))∧W=w'))
  (HCB:∀ W,Hid (Calls Tryz.prog 216 #[.int .i64 64,.int .u64 (b:Int)] W fun e w' => e=.returned (.int .u64 (d:Int))∧W=w'))
  (HVA:∀ W,Hid (Calls Tryz.prog 215 #[.int .i64 64,.int .u64 (c:Int)] W fun e w' => e=.returned (.float .f64 c)∧Below W.heap.size W w'))
  (HVB:∀ W,Hid (Calls Tryz.prog 215 #[.int .i64 64,.int .u64 (d:Int)] W fun e w' => e=.returned (.float .f64 d)∧Below W.heap.size W w'))
  (t1:(FloatKind.f64.format.order c c != some .eq)=false) (t2:(FloatKind.f64.format.order d d != some .eq)=false) (w:World) :
  Calls Tryz.prog 148 #[.int .i64 64,.int .i64 4,.int .u64 (a:Int),.int .u64 (b:Int)] w fun e w' => e=.returned (.tuple #[.int .u64 9221120237041090560,.int .i64 0])∧Below w.heap.size w w':=by
 have HW:=fun W => hid (worked_4_nan c d h W)
 have HB:=hid BB_64_nan
 clear h
 go_enter Tryz.func148,Tryz.ntmps148
 go_wp2_with (first
   | (go_at_call 216;((with_reducible refine (HCA _).out.mono ?_);rintro e w1 ⟨rfl,rfl⟩))
   | (go_at_call 216;((with_reducible refine (HCB _).out.mono ?_);rintro e w1 ⟨rfl,rfl⟩))
   | (go_at_call 215;((with_reducible refine (HVA _).out.mono ?_);rintro e w1 ⟨rfl,hb1⟩))
   | (go_at_call 215;((with_reducible refine (HVB _).out.mono ?_);rintro e w2 ⟨rfl,hb2⟩))
   | (go_at_call 217;((with_reducible refine (rsign_64 _).mono ?_);rintro e w3 ⟨rfl,rfl⟩))
   | (go_at_call 226;((with_reducible refine (HW _).out.mono ?_);rintro e w3 ⟨N,rfl,hN,hb3⟩;have HN:=hid hN;clear hN))
   | (go_at_call 224;((with_reducible refine (HB.out _ HN.out _).mono ?_);rintro e w3 ⟨rfl,rfl⟩)))
 go_ret2
 exact ⟨rfl,bnext (bnext hb1 hb2) hb3⟩
theorem RBin_64_4 (a b:Nat) (ha:a < 18446744073709551616) (hb:b < 18446744073709551616) (w:World) :
  Calls Tryz.prog 148 #[.int .i64 64,.int .i64 4,.int .u64 (a:Int),.int .u64 (b:Int)] w fun e w' => e=.returned (.tuple #[.int .u64 ((binW Ieee.double 9 9223372036854775808 9218868437227405312 9221120237041090560 52 (-1074) 4 (a % 18446744073709551616) (b % 18446744073709551616):Nat):Int),.int .i64 0])∧Below w.heap.size w w':=by
 have HCA:=fun W => hid (rcut_64 a ha W)
 have HCB:=fun W => hid (rcut_64 b hb W)
 have hc:a % 18446744073709551616 < 2 * 9223372036854775808:=by omega
 have hd:b % 18446744073709551616 < 2 * 9223372036854775808:=by omega
 generalize a % 18446744073709551616=c at *
 generalize b % 18446744073709551616=d at *
 have HVA:∀ W,Hid (Calls Tryz.prog 215 #[.int .i64 64,.int .u64 (c:Int)] W (VPost 9223372036854775808 9218868437227405312 c W)):=fun W => hid (by exact value_64 c hc W)
 have HVB:∀ W,Hid (Calls Tryz.prog 215 #[.int .i64 64,.int .u64 (d:Int)] W (VPost 9223372036854775808 9218868437227405312 d W)):=fun W => hid (by exact value_64 d hd W)
 have HNA:Hid (∀ v,ValOf 9223372036854775808 9218868437227405312 c v→(FloatKind.f64.format.order v v != some .eq)=decide (9218868437227405312 < c % 9223372036854775808)):=hid fun v hv => val_ne hc hv
 have HNB:Hid (∀ v,ValOf 9223372036854775808 9218868437227405312 d v→(FloatKind.f64.format.order v v != some .eq)=decide (9218868437227405312 < d % 9223372036854775808)):=hid fun v hv => val_ne hd hv
 by_cases hn:9218868437227405312 < c % 9223372036854775808 ∨ 9218868437227405312 < d % 9223372036854775808
 ·have hres:binW Ieee.double 9 9223372036854775808 9218868437227405312 9221120237041090560 52 (-1074) 4 c d=9221120237041090560:=by unfold binW;rw [if_pos ⟨by decide,show nanW 9223372036854775808 9218868437227405312 c d=true from decide_eq_true hn⟩]
  rw [hres]
  refine RBn_64_4 a b c d _ _ _ _ ?_ HCA HCB HVA HVB HNA HNB w
  by_cases h1:9218868437227405312 < c % 9223372036854775808
  ·exact .inl (decide_eq_true h1)
  ·exact .inr ⟨decide_eq_false h1,decide_eq_true (by omega)⟩
 have hres:binW Ieee.double 9 9223372036854775808 9218868437227405312 9221120237041090560 52 (-1074) 4 c d=(Ieee.double.div c d).getD 9221120237041090560:=by
  unfold binW
  rw [if_neg (by rintro ⟨_,h⟩;exact hn (of_decide_eq_true h)),if_neg (by decide),if_neg (by decide),if_neg (by decide),if_pos rfl]
 rw [hres]
 rw [decide_eq_false (show ¬ 9218868437227405312 < c % 9223372036854775808 by omega)] at HNA
 rw [decide_eq_false (show ¬ 9218868437227405312 < d % 9223372036854775808 by omega)] at HNB
 have hvc:∀ {x v:Nat},x % 9223372036854775808≤9218868437227405312→ValOf 9223372036854775808 9218868437227405312 x v→v=x:=fun {x v} hx hv => by
  rcases hv with ⟨h1,_⟩ | ⟨_,_,h3⟩
  ·omega
  ·rcases h3 with ⟨h4,_,_⟩ | ⟨_,_,h5⟩
   ·exact absurd h4 (by decide)
   ·exact h5
 have HVA2:∀ W,Hid (Calls Tryz.prog 215 #[.int .i64 64,.int .u64 (c:Int)] W fun e w' => e=.returned (.float .f64 c)∧Below W.heap.size W w'):=fun W => hid ((HVA W).out.mono fun e w' ⟨v,h1,h2,h3⟩ => ⟨by rw [h1,hvc (by omega) h2],h3⟩)
 have HVB2:∀ W,Hid (Calls Tryz.prog 215 #[.int .i64 64,.int .u64 (d:Int)] W fun e w' => e=.returned (.float .f64 d)∧Below W.heap.size W w'):=fun W => hid ((HVB W).out.mono fun e w' ⟨v,h1,h2,h3⟩ => ⟨by rw [h1,hvc (by omega) h2],h3⟩)
 have t1:=HNA.out c (.inr ⟨by omega,by omega,.inr ⟨rfl,rfl,rfl⟩⟩)
 have t2:=HNB.out d (.inr ⟨by omega,by omega,.inr ⟨rfl,rfl,rfl⟩⟩)
 cases h:Ieee.double.div c d with
 | none =>
  exact RBz_64_4 a b c d h HCA HCB HVA2 HVB2 t1 t2 w
 | some r =>
  have hr:r < 2 * 9223372036854775808∧r % 9223372036854775808≤9218868437227405312:=by
   have h':=h
   unfold Ieee.Format.div at h'
   obtain ⟨D,hD,rfl⟩:=Option.map_eq_some_iff.1 h'
   exact write_fin fmt_double D (quotient_notNaN _ _ _ _ hD)
  exact RBa_64_4 a b c d r h hr HCA HCB HVA2 HVB2 t1 t2 w
end Go.Proofs.YtlhakbkdlgejpaaGreatDoor.Fl
