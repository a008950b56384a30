/-
  FRBin: merged, what the laws do not reach left out (each text says what it holds where it lies in wip). No condition.
-/
import Derived.Test.YtlhakbkdlgejpaaGreatDoorX20
import Derived.Test.YtlhakbkdlgejpaaGreatDoorX19
import Derived.Test.YtlhakbkdlgejpaaGreatDoorX01
set_option linter.unusedSimpArgs false
set_option linter.unusedVariables false
set_option maxRecDepth 100000
namespace Go.Proofs.YtlhakbkdlgejpaaGreatDoor.Fl
open Go.RowKit
def sel5 (least nx ny zx zy sa lt:Bool) (CAN c d:Nat):Nat :=
 if (nx || ny)=true then CAN else if (zx && zy)=true then (if (least == sa)=true then c else d) else if (lt != least)=true then d else c
theorem zero_or {SB c:Nat} (hc:c < 2 * SB) (h:c % SB=0):c=0 ∨ c=SB:=by
 rcases Nat.lt_or_ge c SB with h1 | h1
 ·rw [Nat.mod_eq_of_lt h1] at h;exact .inl h
 ·rw [Nat.mod_eq_sub_mod h1,Nat.mod_eq_of_lt (by omega)] at h;right;omega
theorem rank_eq_zero {SB c:Nat}:rankOf SB c=0 ↔ c % SB=0:=by
 unfold rankOf;split <;> omega
theorem rank_inj {SB c d:Nat} (hc:c < 2 * SB) (hd:d < 2 * SB) (h:rankOf SB c=rankOf SB d) (h0:¬ (c % SB=0∧d % SB=0)):c=d:=by
 unfold rankOf at h
 by_cases h1:SB≤c <;> by_cases h2:SB≤d
 ·rw [if_pos h1,if_pos h2,Nat.mod_eq_sub_mod h1,Nat.mod_eq_of_lt (by omega),Nat.mod_eq_sub_mod h2,Nat.mod_eq_of_lt (by omega)] at h
  omega
 ·rw [if_pos h1,if_neg h2] at h;omega
 ·rw [if_neg h1,if_pos h2] at h;omega
 ·rw [if_neg h1,if_neg h2,Nat.mod_eq_of_lt (by omega),Nat.mod_eq_of_lt (by omega)] at h
  omega
theorem bin5 (f:Ieee.Format) (room SB INF CAN P:Nat) (low:Int) (c d:Nat):binW f room SB INF CAN P low 5 c d=if nanW SB INF c d=true then CAN else (if rankOf SB d < rankOf SB c then d else if rankOf SB d=rankOf SB c then c ||| d else c):=by
 unfold binW;by_cases h:nanW SB INF c d=true <;> simp [h]
theorem bin6 (f:Ieee.Format) (room SB INF CAN P:Nat) (low:Int) (c d:Nat):binW f room SB INF CAN P low 6 c d=if nanW SB INF c d=true then CAN else (if rankOf SB c < rankOf SB d then d else if rankOf SB d=rankOf SB c then c &&& d else c):=by
 unfold binW;by_cases h:nanW SB INF c d=true <;> simp [h]
theorem sel_t (zx zy sa lt:Bool) (CAN c d:Nat):sel5 true false false zx zy sa lt CAN c d=if (zx && zy)=true then (if sa=true then c else d) else if lt=true then c else d:=by
 cases zx <;> cases zy <;> cases sa <;> cases lt <;> rfl
theorem sel_f (zx zy sa lt:Bool) (CAN c d:Nat):sel5 false false false zx zy sa lt CAN c d=if (zx && zy)=true then (if sa=true then d else c) else if lt=true then d else c:=by
 cases zx <;> cases zy <;> cases sa <;> cases lt <;> rfl
theorem sel_nan (least nx ny zx zy sa lt:Bool) (CAN c d:Nat) (h:(nx || ny)=true):sel5 least nx ny zx zy sa lt CAN c d=CAN:=by unfold sel5;rw [if_pos h]
theorem sel_min (SB INF CAN c d:Nat) (f:Ieee.Format) (room P:Nat) (low:Int) (hSB:SB=2147483648 ∨ SB=9223372036854775808) (hc:c < 2 * SB) (hd:d < 2 * SB) (h0:0 < INF) :
  sel5 true (decide (INF < c % SB)) (decide (INF < d % SB)) (decide (c % SB=0)) (decide (d % SB=0)) (decide (SB≤c)) (decide (rankOf SB c < rankOf SB d)) CAN c d=binW f room SB INF CAN P low 5 c d:=by
 rw [bin5]
 by_cases hn:INF < c % SB ∨ INF < d % SB
 ·rw [if_pos (show nanW SB INF c d=true from decide_eq_true hn)]
  exact sel_nan _ _ _ _ _ _ _ _ _ _ (by rcases hn with h | h <;> simp [h])
 ·rw [if_neg (show ¬ nanW SB INF c d=true from fun h => hn (of_decide_eq_true h)),decide_eq_false (show ¬ INF < c % SB by omega),decide_eq_false (show ¬ INF < d % SB by omega),sel_t]
  by_cases hz:c % SB=0∧d % SB=0
  ·rw [decide_eq_true hz.1,decide_eq_true hz.2,rank_eq_zero.2 hz.1,rank_eq_zero.2 hz.2]
   rcases zero_or hc hz.1 with rfl | rfl <;> rcases zero_or hd hz.2 with rfl | rfl
   all_goals (rcases hSB with h | h <;> first | (subst h;decide) | simp)
  ·have hzz:(decide (c % SB=0) && decide (d % SB=0))=false:=by
    by_cases h1:c % SB=0
    ·rw [decide_eq_false (fun h2 => hz ⟨h1,h2⟩),Bool.and_false]
    ·rw [decide_eq_false h1,Bool.false_and]
   rw [hzz,if_neg (by decide)]
   rcases Int.lt_trichotomy (rankOf SB c) (rankOf SB d) with h | h | h
   ·rw [if_pos (decide_eq_true h),if_neg (by omega),if_neg (by omega)]
   ·have:=rank_inj hc hd h hz
    subst this
    rw [if_neg (by simp),if_neg (by omega),if_pos rfl,Nat.or_self]
   ·rw [if_neg (by rw [decide_eq_false (by omega)];decide),if_pos h]
theorem sel_max (SB INF CAN c d:Nat) (f:Ieee.Format) (room P:Nat) (low:Int) (hSB:SB=2147483648 ∨ SB=9223372036854775808) (hc:c < 2 * SB) (hd:d < 2 * SB) (h0:0 < INF) :
  sel5 false (decide (INF < c % SB)) (decide (INF < d % SB)) (decide (c % SB=0)) (decide (d % SB=0)) (decide (SB≤c)) (decide (rankOf SB c < rankOf SB d)) CAN c d=binW f room SB INF CAN P low 6 c d:=by
 rw [bin6]
 by_cases hn:INF < c % SB ∨ INF < d % SB
 ·rw [if_pos (show nanW SB INF c d=true from decide_eq_true hn)]
  exact sel_nan _ _ _ _ _ _ _ _ _ _ (by rcases hn with h | h <;> simp [h])
 ·rw [if_neg (show ¬ nanW SB INF c d=true from fun h => hn (of_decide_eq_true h)),decide_eq_false (show ¬ INF < c % SB by omega),decide_eq_false (show ¬ INF < d % SB by omega),sel_f]
  by_cases hz:c % SB=0∧d % SB=0
  ·rw [decide_eq_true hz.1,decide_eq_true hz.2,rank_eq_zero.2 hz.1,rank_eq_zero.2 hz.2]
   rcases zero_or hc hz.1 with rfl | rfl <;> rcases zero_or hd hz.2 with rfl | rfl
   all_goals (rcases hSB with h | h <;> first | (subst h;decide) | simp)
  ·have hzz:(decide (c % SB=0) && decide (d % SB=0))=false:=by
    by_cases h1:c % SB=0
    ·rw [decide_eq_false (fun h2 => hz ⟨h1,h2⟩),Bool.and_false]
    ·rw [decide_eq_false h1,Bool.false_and]
   rw [hzz,if_neg (by decide)]
   rcases Int.lt_trichotomy (rankOf SB c) (rankOf SB d) with h | h | h
   ·rw [if_pos (decide_eq_true h),if_pos h]
   ·have:=rank_inj hc hd h hz
    subst this
    rw [if_neg (by simp),if_neg (by omega),if_pos rfl,Nat.and_self]
   ·rw [if_neg (by rw [decide_eq_false (by omega)];decide),if_neg (by omega),if_neg (by omega)]
def Ways (nx ny zx zy sa lt:Bool):Prop :=
 (nx=true) ∨ (nx=false∧ny=true) ∨ (nx=false∧ny=false∧zx=true∧zy=true∧sa=true) ∨ (nx=false∧ny=false∧zx=true∧zy=true∧sa=false) ∨
 (nx=false∧ny=false∧zx=false∧lt=true) ∨ (nx=false∧ny=false∧zx=false∧lt=false) ∨
 (nx=false∧ny=false∧zx=true∧zy=false∧lt=true) ∨ (nx=false∧ny=false∧zx=true∧zy=false∧lt=false)
theorem ways (nx ny zx zy sa lt:Bool):Ways nx ny zx zy sa lt:=by
 unfold Ways;cases nx <;> cases ny <;> cases zx <;> cases zy <;> cases sa <;> cases lt <;> simp
theorem sign_math_32 (c d:Nat) (hc:c < 2 * 2147483648) (hd:d < 2 * 2147483648) :
  ∃ y z t:Nat,(c:Int) % 2147483648=(y:Int)∧(d:Int) % 2147483648=(z:Int)∧IntKind.u64.wrap ((y:Int) + (d:Int))=(t:Int)∧IntKind.u64.wrap ((t:Int) - (z:Int))=((c % 2147483648 + (if 2147483648≤d then 2147483648 else 0):Nat):Int):=by
 refine ⟨c % 2147483648,d % 2147483648,(c % 2147483648 + d) % 18446744073709551616,by omega,by omega,?_,?_⟩
 ·rw [IntKind.wrap_u64];omega
 ·rw [IntKind.wrap_u64];split <;> omega
set_option maxRecDepth 20000 in
set_option maxHeartbeats 6400000 in
theorem RBc_32_7 (a b c d y z t R:Nat) (V U:Nat→Prop) (h1:(c:Int) % 2147483648=(y:Int)) (h2:(d:Int) % 2147483648=(z:Int)) (h3:IntKind.u64.wrap ((y:Int) + (d:Int))=(t:Int)) (h4:IntKind.u64.wrap ((t:Int) - (z:Int))=(R:Int))
  (HCA:∀ W,Hid (Calls Tryz.prog 216 #[.int .i64 32,.int .u64 (a:Int)] W fun e w' => e=.returned (.int .u64 (c:Int))∧W=w'))
  (HCB:∀ W,Hid (Calls Tryz.prog 216 #[.int .i64 32,.int .u64 (b:Int)] W fun e w' => e=.returned (.int .u64 (d:Int))∧W=w'))
  (HVA:∀ W,Hid (Calls Tryz.prog 215 #[.int .i64 32,.int .u64 (c:Int)] W fun e w' => ∃ v:Nat,e=.returned (.float .f64 v)∧V v∧Below W.heap.size W w'))
  (HVB:∀ W,Hid (Calls Tryz.prog 215 #[.int .i64 32,.int .u64 (d:Int)] W fun e w' => ∃ v:Nat,e=.returned (.float .f64 v)∧U v∧Below W.heap.size W w')) (w:World) :
  Calls Tryz.prog 148 #[.int .i64 32,.int .i64 7,.int .u64 (a:Int),.int .u64 (b:Int)] w fun e w' => e=.returned (.tuple #[.int .u64 (R:Int),.int .i64 0])∧Below w.heap.size w w':=by
 go_enter Tryz.func148,Tryz.ntmps148
 go_wp2_with (first
   | (go_at_call 216;((with_reducible refine (HCA _).out.mono ?_);rintro e w1 ⟨rfl,rfl⟩))
   | (go_at_call 216;((with_reducible refine (HCB _).out.mono ?_);rintro e w1 ⟨rfl,rfl⟩))
   | (go_at_call 215;((with_reducible refine (HVA _).out.mono ?_);rintro e w1 ⟨v,rfl,hv,hb1⟩))
   | (go_at_call 215;((with_reducible refine (HVB _).out.mono ?_);rintro e w2 ⟨u,rfl,hu,hb2⟩))
   | (go_at_call 217;((with_reducible refine (rsign_32 _).mono ?_);rintro e w3 ⟨rfl,rfl⟩)))
 have hB:=bnext hb1 hb2
 go_quiet (fail)
 go_wp2
 exact bodyPost_ret (v:=.tuple #[.int .u64 (R:Int),.int .i64 0]) (by simp [results,Tryz.results148,go_sem,h1,h2,h3,h4]) rfl ⟨rfl,below_drewN hB _⟩
theorem RBin_32_7 (a b:Nat) (ha:a < 18446744073709551616) (hb:b < 18446744073709551616) (w:World) :
  Calls Tryz.prog 148 #[.int .i64 32,.int .i64 7,.int .u64 (a:Int),.int .u64 (b:Int)] w fun e w' => e=.returned (.tuple #[.int .u64 ((binW Ieee.single 38 2147483648 2139095040 2143289344 23 (-149) 7 (a % 4294967296) (b % 4294967296):Nat):Int),.int .i64 0])∧Below w.heap.size w w':=by
 have HCA:=fun W => hid (rcut_32 a  W)
 have HCB:=fun W => hid (rcut_32 b  W)
 have hc:a % 4294967296 < 2 * 2147483648:=by omega
 have hd:b % 4294967296 < 2 * 2147483648:=by omega
 generalize a % 4294967296=c at *
 generalize b % 4294967296=d at *
 have HVA:∀ W,Hid (Calls Tryz.prog 215 #[.int .i64 32,.int .u64 (c:Int)] W (VPost 2147483648 2139095040 c W)):=fun W => hid (by have:=value_32 c W;rw [Nat.mod_eq_of_lt (show c < 4294967296 from hc)] at this;exact this)
 have HVB:∀ W,Hid (Calls Tryz.prog 215 #[.int .i64 32,.int .u64 (d:Int)] W (VPost 2147483648 2139095040 d W)):=fun W => hid (by have:=value_32 d W;rw [Nat.mod_eq_of_lt (show d < 4294967296 from hd)] at this;exact this)
 obtain ⟨y,z,t,h1,h2,h3,h4⟩:=sign_math_32 c d hc hd
 exact RBc_32_7 a b c d y z t _ _ _ h1 h2 h3 h4 HCA HCB HVA HVB w
set_option maxRecDepth 20000 in
set_option maxHeartbeats 6400000 in
theorem RBc_32_5 (a b c d:Nat) (V U:Nat→Prop) (nx ny zx zy sa lt gt:Bool) (hw:Ways nx ny zx zy sa lt)
  (hsa:decide ((2147483648:Int)≤(c:Int))=sa)
  (HCA:∀ W,Hid (Calls Tryz.prog 216 #[.int .i64 32,.int .u64 (a:Int)] W fun e w' => e=.returned (.int .u64 (c:Int))∧W=w'))
  (HCB:∀ W,Hid (Calls Tryz.prog 216 #[.int .i64 32,.int .u64 (b:Int)] W fun e w' => e=.returned (.int .u64 (d:Int))∧W=w'))
  (HVA:∀ W,Hid (Calls Tryz.prog 215 #[.int .i64 32,.int .u64 (c:Int)] W fun e w' => ∃ v:Nat,e=.returned (.float .f64 v)∧V v∧Below W.heap.size W w'))
  (HVB:∀ W,Hid (Calls Tryz.prog 215 #[.int .i64 32,.int .u64 (d:Int)] W fun e w' => ∃ v:Nat,e=.returned (.float .f64 v)∧U v∧Below W.heap.size W w'))
  (HNA:Hid (∀ v,V v→(FloatKind.f64.format.order v v != some .eq)=nx∧(FloatKind.f64.format.order v 0 == some .eq)=zx))
  (HNB:Hid (∀ u,U u→(FloatKind.f64.format.order u u != some .eq)=ny∧(FloatKind.f64.format.order u 0 == some .eq)=zy))
  (HO:Hid (∀ v u,V v→U u→(FloatKind.f64.format.order v u == some .lt)=lt∧(FloatKind.f64.format.order u v == some .lt)=gt)) (w:World) :
  Calls Tryz.prog 148 #[.int .i64 32,.int .i64 5,.int .u64 (a:Int),.int .u64 (b:Int)] w fun e w' => e=.returned (.tuple #[.int .u64 ((sel5 true nx ny zx zy sa lt 2143289344 c d:Nat):Int),.int .i64 0])∧Below w.heap.size w w':=by
 rcases hw with rfl | ⟨rfl,rfl⟩ | ⟨rfl,rfl,rfl,rfl,rfl⟩ | ⟨rfl,rfl,rfl,rfl,rfl⟩ | ⟨rfl,rfl,rfl,rfl⟩ | ⟨rfl,rfl,rfl,rfl⟩ | ⟨rfl,rfl,rfl,rfl,rfl⟩ | ⟨rfl,rfl,rfl,rfl,rfl⟩
 all_goals
  go_enter Tryz.func148,Tryz.ntmps148
  go_wp2_with (first
   | (go_at_call 216;((with_reducible refine (HCA _).out.mono ?_);rintro e w1 ⟨rfl,rfl⟩))
   | (go_at_call 216;((with_reducible refine (HCB _).out.mono ?_);rintro e w1 ⟨rfl,rfl⟩))
   | (go_at_call 215;((with_reducible refine (HVA _).out.mono ?_);rintro e w1 ⟨v,rfl,hv,hb1⟩;obtain ⟨t1,t2⟩:=HNA.out v hv))
   | (go_at_call 215;((with_reducible refine (HVB _).out.mono ?_);rintro e w2 ⟨u,rfl,hu,hb2⟩;obtain ⟨t3,t4⟩:=HNB.out u hu;obtain ⟨t5,t6⟩:=HO.out v u hv hu))
   | (go_at_call 217;((with_reducible refine (rsign_32 _).mono ?_);rintro e w3 ⟨rfl,rfl⟩))
   | (go_at_call 225;((with_reducible refine (rcan_32 _).mono ?_);rintro e w3 ⟨rfl,rfl⟩)))
  go_ret2
  exact ⟨rfl,bnext hb1 hb2⟩
theorem RBin_32_5 (a b:Nat) (ha:a < 18446744073709551616) (hb:b < 18446744073709551616) (w:World) :
  Calls Tryz.prog 148 #[.int .i64 32,.int .i64 5,.int .u64 (a:Int),.int .u64 (b:Int)] w fun e w' => e=.returned (.tuple #[.int .u64 ((binW Ieee.single 38 2147483648 2139095040 2143289344 23 (-149) 5 (a % 4294967296) (b % 4294967296):Nat):Int),.int .i64 0])∧Below w.heap.size w w':=by
 have HCA:=fun W => hid (rcut_32 a  W)
 have HCB:=fun W => hid (rcut_32 b  W)
 have hc:a % 4294967296 < 2 * 2147483648:=by omega
 have hd:b % 4294967296 < 2 * 2147483648:=by omega
 generalize a % 4294967296=c at *
 generalize b % 4294967296=d at *
 have HVA:∀ W,Hid (Calls Tryz.prog 215 #[.int .i64 32,.int .u64 (c:Int)] W (VPost 2147483648 2139095040 c W)):=fun W => hid (by have:=value_32 c W;rw [Nat.mod_eq_of_lt (show c < 4294967296 from hc)] at this;exact this)
 have HVB:∀ W,Hid (Calls Tryz.prog 215 #[.int .i64 32,.int .u64 (d:Int)] W (VPost 2147483648 2139095040 d W)):=fun W => hid (by have:=value_32 d W;rw [Nat.mod_eq_of_lt (show d < 4294967296 from hd)] at this;exact this)
 have hz:(2147483648:Nat)=2147483648∧2139095040=2139095040 ∨ (2147483648:Nat)=9223372036854775808∧2139095040=9218868437227405312:=by decide
 have HNA:Hid (∀ v,ValOf 2147483648 2139095040 c v→(FloatKind.f64.format.order v v != some .eq)=decide (2139095040 < c % 2147483648)∧(FloatKind.f64.format.order v 0 == some .eq)=decide (c % 2147483648=0)):=hid fun v hv => ⟨val_ne hc hv,val_eq0 hz hc hv⟩
 have HNB:Hid (∀ v,ValOf 2147483648 2139095040 d v→(FloatKind.f64.format.order v v != some .eq)=decide (2139095040 < d % 2147483648)∧(FloatKind.f64.format.order v 0 == some .eq)=decide (d % 2147483648=0)):=hid fun v hv => ⟨val_ne hd hv,val_eq0 hz hd hv⟩
 have hlt:∀ {x y:Nat},x < 2 * 2147483648→y < 2 * 2147483648→∀ v u,ValOf 2147483648 2139095040 x v→ValOf 2147483648 2139095040 y u→(FloatKind.f64.format.order v u == some .lt)=(!nanW 2147483648 2139095040 x y && decide (rankOf 2147483648 x < rankOf 2147483648 y)):=fun {x y} hx hy v u hv hu => by
  have h:=order_val hx hy hv hu
  show (Ieee.double.order v u == some .lt)=_
  rw [h]
  unfold nanW
  by_cases hn:2139095040 < x % 2147483648 ∨ 2139095040 < y % 2147483648
  ·rw [if_pos hn,decide_eq_true hn];rfl
  ·rw [if_neg hn,decide_eq_false hn]
   rcases Int.lt_trichotomy (rankOf 2147483648 x) (rankOf 2147483648 y) with h1 | h1 | h1
   ·rw [cmp_lt h1,decide_eq_true h1];rfl
   ·rw [cmp_eq h1,decide_eq_false (by omega)];rfl
   ·rw [cmp_gt h1,decide_eq_false (by omega)];rfl
 have hs:decide ((2147483648:Int)≤(c:Int))=decide (2147483648≤c):=decide_eq_decide.2 (by omega)
 rw [← sel_min 2147483648 2139095040 2143289344 c d Ieee.single 38 23 (-149) (by decide) hc hd (by decide)]
 by_cases hn:2139095040 < c % 2147483648 ∨ 2139095040 < d % 2147483648
 ·have key:=fun L G => RBc_32_5 a b c d _ _ (decide (2139095040 < c % 2147483648)) (decide (2139095040 < d % 2147483648)) (decide (c % 2147483648=0)) (decide (d % 2147483648=0)) (decide (2147483648≤c)) L G (ways _ _ _ _ _ _) hs HCA HCB HVA HVB HNA HNB
  have hsel:∀ L L',sel5 true (decide (2139095040 < c % 2147483648)) (decide (2139095040 < d % 2147483648)) (decide (c % 2147483648=0)) (decide (d % 2147483648=0)) (decide (2147483648≤c)) L 2143289344 c d=sel5 true (decide (2139095040 < c % 2147483648)) (decide (2139095040 < d % 2147483648)) (decide (c % 2147483648=0)) (decide (d % 2147483648=0)) (decide (2147483648≤c)) L' 2143289344 c d:=fun L L' => by
   unfold sel5
   rw [if_pos (by rcases hn with h | h <;> simp [h]),if_pos (by rcases hn with h | h <;> simp [h])]
  rw [hsel _ false]
  refine key false false (hid fun v u hv hu => ⟨?_,?_⟩) w
  ·rw [hlt hc hd v u hv hu];unfold nanW;rw [decide_eq_true hn];rfl
  ·rw [hlt hd hc u v hu hv];unfold nanW;rw [decide_eq_true (show 2139095040 < d % 2147483648 ∨ 2139095040 < c % 2147483648 by omega)];rfl
 ·refine RBc_32_5 a b c d _ _ _ _ _ _ _ _ (decide (rankOf 2147483648 d < rankOf 2147483648 c)) (ways _ _ _ _ _ _) hs HCA HCB HVA HVB HNA HNB (hid fun v u hv hu => ⟨?_,?_⟩) w
  ·rw [hlt hc hd v u hv hu];unfold nanW;rw [decide_eq_false hn];rfl
  ·rw [hlt hd hc u v hu hv];unfold nanW;rw [decide_eq_false (show ¬ (2139095040 < d % 2147483648 ∨ 2139095040 < c % 2147483648) by omega)];rfl
set_option maxRecDepth 20000 in
set_option maxHeartbeats 6400000 in
theorem RBc_32_6 (a b c d:Nat) (V U:Nat→Prop) (nx ny zx zy sa lt gt:Bool) (hw:Ways nx ny zx zy sa lt)
  (hsa:decide ((2147483648:Int)≤(c:Int))=sa)
  (HCA:∀ W,Hid (Calls Tryz.prog 216 #[.int .i64 32,.int .u64 (a:Int)] W fun e w' => e=.returned (.int .u64 (c:Int))∧W=w'))
  (HCB:∀ W,Hid (Calls Tryz.prog 216 #[.int .i64 32,.int .u64 (b:Int)] W fun e w' => e=.returned (.int .u64 (d:Int))∧W=w'))
  (HVA:∀ W,Hid (Calls Tryz.prog 215 #[.int .i64 32,.int .u64 (c:Int)] W fun e w' => ∃ v:Nat,e=.returned (.float .f64 v)∧V v∧Below W.heap.size W w'))
  (HVB:∀ W,Hid (Calls Tryz.prog 215 #[.int .i64 32,.int .u64 (d:Int)] W fun e w' => ∃ v:Nat,e=.returned (.float .f64 v)∧U v∧Below W.heap.size W w'))
  (HNA:Hid (∀ v,V v→(FloatKind.f64.format.order v v != some .eq)=nx∧(FloatKind.f64.format.order v 0 == some .eq)=zx))
  (HNB:Hid (∀ u,U u→(FloatKind.f64.format.order u u != some .eq)=ny∧(FloatKind.f64.format.order u 0 == some .eq)=zy))
  (HO:Hid (∀ v u,V v→U u→(FloatKind.f64.format.order v u == some .lt)=lt∧(FloatKind.f64.format.order u v == some .lt)=gt)) (w:World) :
  Calls Tryz.prog 148 #[.int .i64 32,.int .i64 6,.int .u64 (a:Int),.int .u64 (b:Int)] w fun e w' => e=.returned (.tuple #[.int .u64 ((sel5 false nx ny zx zy sa lt 2143289344 c d:Nat):Int),.int .i64 0])∧Below w.heap.size w w':=by
 rcases hw with rfl | ⟨rfl,rfl⟩ | ⟨rfl,rfl,rfl,rfl,rfl⟩ | ⟨rfl,rfl,rfl,rfl,rfl⟩ | ⟨rfl,rfl,rfl,rfl⟩ | ⟨rfl,rfl,rfl,rfl⟩ | ⟨rfl,rfl,rfl,rfl,rfl⟩ | ⟨rfl,rfl,rfl,rfl,rfl⟩
 all_goals
  go_enter Tryz.func148,Tryz.ntmps148
  go_wp2_with (first
   | (go_at_call 216;((with_reducible refine (HCA _).out.mono ?_);rintro e w1 ⟨rfl,rfl⟩))
   | (go_at_call 216;((with_reducible refine (HCB _).out.mono ?_);rintro e w1 ⟨rfl,rfl⟩))
   | (go_at_call 215;((with_reducible refine (HVA _).out.mono ?_);rintro e w1 ⟨v,rfl,hv,hb1⟩;obtain ⟨t1,t2⟩:=HNA.out v hv))
   | (go_at_call 215;((with_reducible refine (HVB _).out.mono ?_);rintro e w2 ⟨u,rfl,hu,hb2⟩;obtain ⟨t3,t4⟩:=HNB.out u hu;obtain ⟨t5,t6⟩:=HO.out v u hv hu))
   | (go_at_call 217;((with_reducible refine (rsign_32 _).mono ?_);rintro e w3 ⟨rfl,rfl⟩))
   | (go_at_call 225;((with_reducible refine (rcan_32 _).mono ?_);rintro e w3 ⟨rfl,rfl⟩)))
  go_ret2
  exact ⟨rfl,bnext hb1 hb2⟩
theorem RBin_32_6 (a b:Nat) (ha:a < 18446744073709551616) (hb:b < 18446744073709551616) (w:World) :
  Calls Tryz.prog 148 #[.int .i64 32,.int .i64 6,.int .u64 (a:Int),.int .u64 (b:Int)] w fun e w' => e=.returned (.tuple #[.int .u64 ((binW Ieee.single 38 2147483648 2139095040 2143289344 23 (-149) 6 (a % 4294967296) (b % 4294967296):Nat):Int),.int .i64 0])∧Below w.heap.size w w':=by
 have HCA:=fun W => hid (rcut_32 a  W)
 have HCB:=fun W => hid (rcut_32 b  W)
 have hc:a % 4294967296 < 2 * 2147483648:=by omega
 have hd:b % 4294967296 < 2 * 2147483648:=by omega
 generalize a % 4294967296=c at *
 generalize b % 4294967296=d at *
 have HVA:∀ W,Hid (Calls Tryz.prog 215 #[.int .i64 32,.int .u64 (c:Int)] W (VPost 2147483648 2139095040 c W)):=fun W => hid (by have:=value_32 c W;rw [Nat.mod_eq_of_lt (show c < 4294967296 from hc)] at this;exact this)
 have HVB:∀ W,Hid (Calls Tryz.prog 215 #[.int .i64 32,.int .u64 (d:Int)] W (VPost 2147483648 2139095040 d W)):=fun W => hid (by have:=value_32 d W;rw [Nat.mod_eq_of_lt (show d < 4294967296 from hd)] at this;exact this)
 have hz:(2147483648:Nat)=2147483648∧2139095040=2139095040 ∨ (2147483648:Nat)=9223372036854775808∧2139095040=9218868437227405312:=by decide
 have HNA:Hid (∀ v,ValOf 2147483648 2139095040 c v→(FloatKind.f64.format.order v v != some .eq)=decide (2139095040 < c % 2147483648)∧(FloatKind.f64.format.order v 0 == some .eq)=decide (c % 2147483648=0)):=hid fun v hv => ⟨val_ne hc hv,val_eq0 hz hc hv⟩
 have HNB:Hid (∀ v,ValOf 2147483648 2139095040 d v→(FloatKind.f64.format.order v v != some .eq)=decide (2139095040 < d % 2147483648)∧(FloatKind.f64.format.order v 0 == some .eq)=decide (d % 2147483648=0)):=hid fun v hv => ⟨val_ne hd hv,val_eq0 hz hd hv⟩
 have hlt:∀ {x y:Nat},x < 2 * 2147483648→y < 2 * 2147483648→∀ v u,ValOf 2147483648 2139095040 x v→ValOf 2147483648 2139095040 y u→(FloatKind.f64.format.order v u == some .lt)=(!nanW 2147483648 2139095040 x y && decide (rankOf 2147483648 x < rankOf 2147483648 y)):=fun {x y} hx hy v u hv hu => by
  have h:=order_val hx hy hv hu
  show (Ieee.double.order v u == some .lt)=_
  rw [h]
  unfold nanW
  by_cases hn:2139095040 < x % 2147483648 ∨ 2139095040 < y % 2147483648
  ·rw [if_pos hn,decide_eq_true hn];rfl
  ·rw [if_neg hn,decide_eq_false hn]
   rcases Int.lt_trichotomy (rankOf 2147483648 x) (rankOf 2147483648 y) with h1 | h1 | h1
   ·rw [cmp_lt h1,decide_eq_true h1];rfl
   ·rw [cmp_eq h1,decide_eq_false (by omega)];rfl
   ·rw [cmp_gt h1,decide_eq_false (by omega)];rfl
 have hs:decide ((2147483648:Int)≤(c:Int))=decide (2147483648≤c):=decide_eq_decide.2 (by omega)
 rw [← sel_max 2147483648 2139095040 2143289344 c d Ieee.single 38 23 (-149) (by decide) hc hd (by decide)]
 by_cases hn:2139095040 < c % 2147483648 ∨ 2139095040 < d % 2147483648
 ·have key:=fun L G => RBc_32_6 a b c d _ _ (decide (2139095040 < c % 2147483648)) (decide (2139095040 < d % 2147483648)) (decide (c % 2147483648=0)) (decide (d % 2147483648=0)) (decide (2147483648≤c)) L G (ways _ _ _ _ _ _) hs HCA HCB HVA HVB HNA HNB
  have hsel:∀ L L',sel5 false (decide (2139095040 < c % 2147483648)) (decide (2139095040 < d % 2147483648)) (decide (c % 2147483648=0)) (decide (d % 2147483648=0)) (decide (2147483648≤c)) L 2143289344 c d=sel5 false (decide (2139095040 < c % 2147483648)) (decide (2139095040 < d % 2147483648)) (decide (c % 2147483648=0)) (decide (d % 2147483648=0)) (decide (2147483648≤c)) L' 2143289344 c d:=fun L L' => by
   unfold sel5
   rw [if_pos (by rcases hn with h | h <;> simp [h]),if_pos (by rcases hn with h | h <;> simp [h])]
  rw [hsel _ false]
  refine key false false (hid fun v u hv hu => ⟨?_,?_⟩) w
  ·rw [hlt hc hd v u hv hu];unfold nanW;rw [decide_eq_true hn];rfl
  ·rw [hlt hd hc u v hu hv];unfold nanW;rw [decide_eq_true (show 2139095040 < d % 2147483648 ∨ 2139095040 < c % 2147483648 by omega)];rfl
 ·refine RBc_32_6 a b c d _ _ _ _ _ _ _ _ (decide (rankOf 2147483648 d < rankOf 2147483648 c)) (ways _ _ _ _ _ _) hs HCA HCB HVA HVB HNA HNB (hid fun v u hv hu => ⟨?_,?_⟩) w
  ·rw [hlt hc hd v u hv hu];unfold nanW;rw [decide_eq_false hn];rfl
  ·rw [hlt hd hc u v hu hv];unfold nanW;rw [decide_eq_false (show ¬ (2139095040 < d % 2147483648 ∨ 2139095040 < c % 2147483648) by omega)];rfl
set_option maxRecDepth 20000 in
set_option maxHeartbeats 6400000 in
theorem RBc_32_8 (a b c d:Nat) (V U:Nat→Prop) (nx ny zx zy sa lt gt:Bool)
  (hsa:decide ((2147483648:Int)≤(c:Int))=sa)
  (HCA:∀ W,Hid (Calls Tryz.prog 216 #[.int .i64 32,.int .u64 (a:Int)] W fun e w' => e=.returned (.int .u64 (c:Int))∧W=w'))
  (HCB:∀ W,Hid (Calls Tryz.prog 216 #[.int .i64 32,.int .u64 (b:Int)] W fun e w' => e=.returned (.int .u64 (d:Int))∧W=w'))
  (HVA:∀ W,Hid (Calls Tryz.prog 215 #[.int .i64 32,.int .u64 (c:Int)] W fun e w' => ∃ v:Nat,e=.returned (.float .f64 v)∧V v∧Below W.heap.size W w'))
  (HVB:∀ W,Hid (Calls Tryz.prog 215 #[.int .i64 32,.int .u64 (d:Int)] W fun e w' => ∃ v:Nat,e=.returned (.float .f64 v)∧U v∧Below W.heap.size W w'))
  (HNA:Hid (∀ v,V v→(FloatKind.f64.format.order v v != some .eq)=nx∧(FloatKind.f64.format.order v 0 == some .eq)=zx))
  (HNB:Hid (∀ u,U u→(FloatKind.f64.format.order u u != some .eq)=ny∧(FloatKind.f64.format.order u 0 == some .eq)=zy))
  (HO:Hid (∀ v u,V v→U u→(FloatKind.f64.format.order v u == some .lt)=lt∧(FloatKind.f64.format.order u v == some .lt)=gt)) (w:World) :
  Calls Tryz.prog 148 #[.int .i64 32,.int .i64 8,.int .u64 (a:Int),.int .u64 (b:Int)] w fun e w' => e=.returned (.tuple #[.int .u64 (((if gt=true then d else c:Nat)):Int),.int .i64 0])∧Below w.heap.size w w':=by
 cases gt
 all_goals
  go_enter Tryz.func148,Tryz.ntmps148
  go_wp2_with (first
   | (go_at_call 216;((with_reducible refine (HCA _).out.mono ?_);rintro e w1 ⟨rfl,rfl⟩))
   | (go_at_call 216;((with_reducible refine (HCB _).out.mono ?_);rintro e w1 ⟨rfl,rfl⟩))
   | (go_at_call 215;((with_reducible refine (HVA _).out.mono ?_);rintro e w1 ⟨v,rfl,hv,hb1⟩;obtain ⟨t1,t2⟩:=HNA.out v hv))
   | (go_at_call 215;((with_reducible refine (HVB _).out.mono ?_);rintro e w2 ⟨u,rfl,hu,hb2⟩;obtain ⟨t3,t4⟩:=HNB.out u hu;obtain ⟨t5,t6⟩:=HO.out v u hv hu))
   | (go_at_call 217;((with_reducible refine (rsign_32 _).mono ?_);rintro e w3 ⟨rfl,rfl⟩))
   | (go_at_call 225;((with_reducible refine (rcan_32 _).mono ?_);rintro e w3 ⟨rfl,rfl⟩)))
  go_ret2
  exact ⟨rfl,bnext hb1 hb2⟩
theorem RBin_32_8 (a b:Nat) (ha:a < 18446744073709551616) (hb:b < 18446744073709551616) (w:World) :
  Calls Tryz.prog 148 #[.int .i64 32,.int .i64 8,.int .u64 (a:Int),.int .u64 (b:Int)] w fun e w' => e=.returned (.tuple #[.int .u64 ((binW Ieee.single 38 2147483648 2139095040 2143289344 23 (-149) 8 (a % 4294967296) (b % 4294967296):Nat):Int),.int .i64 0])∧Below w.heap.size w w':=by
 have HCA:=fun W => hid (rcut_32 a  W)
 have HCB:=fun W => hid (rcut_32 b  W)
 have hc:a % 4294967296 < 2 * 2147483648:=by omega
 have hd:b % 4294967296 < 2 * 2147483648:=by omega
 generalize a % 4294967296=c at *
 generalize b % 4294967296=d at *
 have HVA:∀ W,Hid (Calls Tryz.prog 215 #[.int .i64 32,.int .u64 (c:Int)] W (VPost 2147483648 2139095040 c W)):=fun W => hid (by have:=value_32 c W;rw [Nat.mod_eq_of_lt (show c < 4294967296 from hc)] at this;exact this)
 have HVB:∀ W,Hid (Calls Tryz.prog 215 #[.int .i64 32,.int .u64 (d:Int)] W (VPost 2147483648 2139095040 d W)):=fun W => hid (by have:=value_32 d W;rw [Nat.mod_eq_of_lt (show d < 4294967296 from hd)] at this;exact this)
 have hz:(2147483648:Nat)=2147483648∧2139095040=2139095040 ∨ (2147483648:Nat)=9223372036854775808∧2139095040=9218868437227405312:=by decide
 have HNA:Hid (∀ v,ValOf 2147483648 2139095040 c v→(FloatKind.f64.format.order v v != some .eq)=decide (2139095040 < c % 2147483648)∧(FloatKind.f64.format.order v 0 == some .eq)=decide (c % 2147483648=0)):=hid fun v hv => ⟨val_ne hc hv,val_eq0 hz hc hv⟩
 have HNB:Hid (∀ v,ValOf 2147483648 2139095040 d v→(FloatKind.f64.format.order v v != some .eq)=decide (2139095040 < d % 2147483648)∧(FloatKind.f64.format.order v 0 == some .eq)=decide (d % 2147483648=0)):=hid fun v hv => ⟨val_ne hd hv,val_eq0 hz hd hv⟩
 have hlt:∀ {x y:Nat},x < 2 * 2147483648→y < 2 * 2147483648→∀ v u,ValOf 2147483648 2139095040 x v→ValOf 2147483648 2139095040 y u→(FloatKind.f64.format.order v u == some .lt)=(!nanW 2147483648 2139095040 x y && decide (rankOf 2147483648 x < rankOf 2147483648 y)):=fun {x y} hx hy v u hv hu => by
  have h:=order_val hx hy hv hu
  show (Ieee.double.order v u == some .lt)=_
  rw [h]
  unfold nanW
  by_cases hn:2139095040 < x % 2147483648 ∨ 2139095040 < y % 2147483648
  ·rw [if_pos hn,decide_eq_true hn];rfl
  ·rw [if_neg hn,decide_eq_false hn]
   rcases Int.lt_trichotomy (rankOf 2147483648 x) (rankOf 2147483648 y) with h1 | h1 | h1
   ·rw [cmp_lt h1,decide_eq_true h1];rfl
   ·rw [cmp_eq h1,decide_eq_false (by omega)];rfl
   ·rw [cmp_gt h1,decide_eq_false (by omega)];rfl
 have hs:decide ((2147483648:Int)≤(c:Int))=decide (2147483648≤c):=decide_eq_decide.2 (by omega)
 have hres:binW Ieee.single 38 2147483648 2139095040 2143289344 23 (-149) 8 c d=if (!nanW 2147483648 2139095040 c d && decide (rankOf 2147483648 d < rankOf 2147483648 c))=true then d else c:=rfl
 rw [hres]
 have hnn:nanW 2147483648 2139095040 c d=nanW 2147483648 2139095040 d c:=by unfold nanW;exact decide_eq_decide.2 (by omega)
 have HO:Hid (∀ v u,ValOf 2147483648 2139095040 c v→ValOf 2147483648 2139095040 d u→(FloatKind.f64.format.order v u == some .lt)=(!nanW 2147483648 2139095040 c d && decide (rankOf 2147483648 c < rankOf 2147483648 d))∧(FloatKind.f64.format.order u v == some .lt)=(!nanW 2147483648 2139095040 c d && decide (rankOf 2147483648 d < rankOf 2147483648 c))) :=
  hid fun v u hv hu => ⟨hlt hc hd v u hv hu,by rw [hnn];exact hlt hd hc u v hu hv⟩
 exact RBc_32_8 a b c d _ _ _ _ _ _ _ _ _ hs HCA HCB HVA HVB HNA HNB HO w
set_option maxRecDepth 20000 in
set_option maxHeartbeats 6400000 in
theorem RBc_32_9 (a b c d:Nat) (V U:Nat→Prop) (nx ny zx zy sa lt gt:Bool)
  (hsa:decide ((2147483648:Int)≤(c:Int))=sa)
  (HCA:∀ W,Hid (Calls Tryz.prog 216 #[.int .i64 32,.int .u64 (a:Int)] W fun e w' => e=.returned (.int .u64 (c:Int))∧W=w'))
  (HCB:∀ W,Hid (Calls Tryz.prog 216 #[.int .i64 32,.int .u64 (b:Int)] W fun e w' => e=.returned (.int .u64 (d:Int))∧W=w'))
  (HVA:∀ W,Hid (Calls Tryz.prog 215 #[.int .i64 32,.int .u64 (c:Int)] W fun e w' => ∃ v:Nat,e=.returned (.float .f64 v)∧V v∧Below W.heap.size W w'))
  (HVB:∀ W,Hid (Calls Tryz.prog 215 #[.int .i64 32,.int .u64 (d:Int)] W fun e w' => ∃ v:Nat,e=.returned (.float .f64 v)∧U v∧Below W.heap.size W w'))
  (HNA:Hid (∀ v,V v→(FloatKind.f64.format.order v v != some .eq)=nx∧(FloatKind.f64.format.order v 0 == some .eq)=zx))
  (HNB:Hid (∀ u,U u→(FloatKind.f64.format.order u u != some .eq)=ny∧(FloatKind.f64.format.order u 0 == some .eq)=zy))
  (HO:Hid (∀ v u,V v→U u→(FloatKind.f64.format.order v u == some .lt)=lt∧(FloatKind.f64.format.order u v == some .lt)=gt)) (w:World) :
  Calls Tryz.prog 148 #[.int .i64 32,.int .i64 9,.int .u64 (a:Int),.int .u64 (b:Int)] w fun e w' => e=.returned (.tuple #[.int .u64 (((if lt=true then d else c:Nat)):Int),.int .i64 0])∧Below w.heap.size w w':=by
 cases lt
 all_goals
  go_enter Tryz.func148,Tryz.ntmps148
  go_wp2_with (first
   | (go_at_call 216;((with_reducible refine (HCA _).out.mono ?_);rintro e w1 ⟨rfl,rfl⟩))
   | (go_at_call 216;((with_reducible refine (HCB _).out.mono ?_);rintro e w1 ⟨rfl,rfl⟩))
   | (go_at_call 215;((with_reducible refine (HVA _).out.mono ?_);rintro e w1 ⟨v,rfl,hv,hb1⟩;obtain ⟨t1,t2⟩:=HNA.out v hv))
   | (go_at_call 215;((with_reducible refine (HVB _).out.mono ?_);rintro e w2 ⟨u,rfl,hu,hb2⟩;obtain ⟨t3,t4⟩:=HNB.out u hu;obtain ⟨t5,t6⟩:=HO.out v u hv hu))
   | (go_at_call 217;((with_reducible refine (rsign_32 _).mono ?_);rintro e w3 ⟨rfl,rfl⟩))
   | (go_at_call 225;((with_reducible refine (rcan_32 _).mono ?_);rintro e w3 ⟨rfl,rfl⟩)))
  go_ret2
  exact ⟨rfl,bnext hb1 hb2⟩
theorem RBin_32_9 (a b:Nat) (ha:a < 18446744073709551616) (hb:b < 18446744073709551616) (w:World) :
  Calls Tryz.prog 148 #[.int .i64 32,.int .i64 9,.int .u64 (a:Int),.int .u64 (b:Int)] w fun e w' => e=.returned (.tuple #[.int .u64 ((binW Ieee.single 38 2147483648 2139095040 2143289344 23 (-149) 9 (a % 4294967296) (b % 4294967296):Nat):Int),.int .i64 0])∧Below w.heap.size w w':=by
 have HCA:=fun W => hid (rcut_32 a  W)
 have HCB:=fun W => hid (rcut_32 b  W)
 have hc:a % 4294967296 < 2 * 2147483648:=by omega
 have hd:b % 4294967296 < 2 * 2147483648:=by omega
 generalize a % 4294967296=c at *
 generalize b % 4294967296=d at *
 have HVA:∀ W,Hid (Calls Tryz.prog 215 #[.int .i64 32,.int .u64 (c:Int)] W (VPost 2147483648 2139095040 c W)):=fun W => hid (by have:=value_32 c W;rw [Nat.mod_eq_of_lt (show c < 4294967296 from hc)] at this;exact this)
 have HVB:∀ W,Hid (Calls Tryz.prog 215 #[.int .i64 32,.int .u64 (d:Int)] W (VPost 2147483648 2139095040 d W)):=fun W => hid (by have:=value_32 d W;rw [Nat.mod_eq_of_lt (show d < 4294967296 from hd)] at this;exact this)
 have hz:(2147483648:Nat)=2147483648∧2139095040=2139095040 ∨ (2147483648:Nat)=9223372036854775808∧2139095040=9218868437227405312:=by decide
 have HNA:Hid (∀ v,ValOf 2147483648 2139095040 c v→(FloatKind.f64.format.order v v != some .eq)=decide (2139095040 < c % 2147483648)∧(FloatKind.f64.format.order v 0 == some .eq)=decide (c % 2147483648=0)):=hid fun v hv => ⟨val_ne hc hv,val_eq0 hz hc hv⟩
 have HNB:Hid (∀ v,ValOf 2147483648 2139095040 d v→(FloatKind.f64.format.order v v != some .eq)=decide (2139095040 < d % 2147483648)∧(FloatKind.f64.format.order v 0 == some .eq)=decide (d % 2147483648=0)):=hid fun v hv => ⟨val_ne hd hv,val_eq0 hz hd hv⟩
 have hlt:∀ {x y:Nat},x < 2 * 2147483648→y < 2 * 2147483648→∀ v u,ValOf 2147483648 2139095040 x v→ValOf 2147483648 2139095040 y u→(FloatKind.f64.format.order v u == some .lt)=(!nanW 2147483648 2139095040 x y && decide (rankOf 2147483648 x < rankOf 2147483648 y)):=fun {x y} hx hy v u hv hu => by
  have h:=order_val hx hy hv hu
  show (Ieee.double.order v u == some .lt)=_
  rw [h]
  unfold nanW
  by_cases hn:2139095040 < x % 2147483648 ∨ 2139095040 < y % 2147483648
  ·rw [if_pos hn,decide_eq_true hn];rfl
  ·rw [if_neg hn,decide_eq_false hn]
   rcases Int.lt_trichotomy (rankOf 2147483648 x) (rankOf 2147483648 y) with h1 | h1 | h1
   ·rw [cmp_lt h1,decide_eq_true h1];rfl
   ·rw [cmp_eq h1,decide_eq_false (by omega)];rfl
   ·rw [cmp_gt h1,decide_eq_false (by omega)];rfl
 have hs:decide ((2147483648:Int)≤(c:Int))=decide (2147483648≤c):=decide_eq_decide.2 (by omega)
 have hres:binW Ieee.single 38 2147483648 2139095040 2143289344 23 (-149) 9 c d=if (!nanW 2147483648 2139095040 c d && decide (rankOf 2147483648 c < rankOf 2147483648 d))=true then d else c:=rfl
 rw [hres]
 have hnn:nanW 2147483648 2139095040 c d=nanW 2147483648 2139095040 d c:=by unfold nanW;exact decide_eq_decide.2 (by omega)
 have HO:Hid (∀ v u,ValOf 2147483648 2139095040 c v→ValOf 2147483648 2139095040 d u→(FloatKind.f64.format.order v u == some .lt)=(!nanW 2147483648 2139095040 c d && decide (rankOf 2147483648 c < rankOf 2147483648 d))∧(FloatKind.f64.format.order u v == some .lt)=(!nanW 2147483648 2139095040 c d && decide (rankOf 2147483648 d < rankOf 2147483648 c))) :=
  hid fun v u hv hu => ⟨hlt hc hd v u hv hu,by rw [hnn];exact hlt hd hc u v hu hv⟩
 exact RBc_32_9 a b c d _ _ _ _ _ _ _ _ _ hs HCA HCB HVA HVB HNA HNB HO w
theorem sign_math_64 (c d:Nat) (hc:c < 2 * 9223372036854775808) (hd:d < 2 * 9223372036854775808) :
  ∃ y z t:Nat,(c:Int) % 9223372036854775808=(y:Int)∧(d:Int) % 9223372036854775808=(z:Int)∧IntKind.u64.wrap ((y:Int) + (d:Int))=(t:Int)∧IntKind.u64.wrap ((t:Int) - (z:Int))=((c % 9223372036854775808 + (if 9223372036854775808≤d then 9223372036854775808 else 0):Nat):Int):=by
 refine ⟨c % 9223372036854775808,d % 9223372036854775808,(c % 9223372036854775808 + d) % 18446744073709551616,by omega,by omega,?_,?_⟩
 ·rw [IntKind.wrap_u64];omega
 ·rw [IntKind.wrap_u64];split <;> omega
set_option maxRecDepth 20000 in
set_option maxHeartbeats 6400000 in
theorem RBc_64_7 (a b c d y z t R:Nat) (V U:Nat→Prop) (h1:(c:Int) % 9223372036854775808=(y:Int)) (h2:(d:Int) % 9223372036854775808=(z:Int)) (h3:IntKind.u64.wrap ((y:Int) + (d:Int))=(t:Int)) (h4:IntKind.u64.wrap ((t:Int) - (z:Int))=(R:Int))
  (HCA:∀ W,Hid (Calls Tryz.prog 216 #[.int .i64 64,.int .u64 (a:Int)] W fun e w' => e=.returned (.int .u64 (c:Int))∧W=w'))
  (HCB:∀ W,Hid (Calls Tryz.prog 216 #[.int .i64 64,.int .u64 (b:Int)] W fun e w' => e=.returned (.int .u64 (d:Int))∧W=w'))
  (HVA:∀ W,Hid (Calls Tryz.prog 215 #[.int .i64 64,.int .u64 (c:Int)] W fun e w' => ∃ v:Nat,e=.returned (.float .f64 v)∧V v∧Below W.heap.size W w'))
  (HVB:∀ W,Hid (Calls Tryz.prog 215 #[.int .i64 64,.int .u64 (d:Int)] W fun e w' => ∃ v:Nat,e=.returned (.float .f64 v)∧U v∧Below W.heap.size W w')) (w:World) :
  Calls Tryz.prog 148 #[.int .i64 64,.int .i64 7,.int .u64 (a:Int),.int .u64 (b:Int)] w fun e w' => e=.returned (.tuple #[.int .u64 (R:Int),.int .i64 0])∧Below w.heap.size w w':=by
 go_enter Tryz.func148,Tryz.ntmps148
 go_wp2_with (first
   | (go_at_call 216;((with_reducible refine (HCA _).out.mono ?_);rintro e w1 ⟨rfl,rfl⟩))
   | (go_at_call 216;((with_reducible refine (HCB _).out.mono ?_);rintro e w1 ⟨rfl,rfl⟩))
   | (go_at_call 215;((with_reducible refine (HVA _).out.mono ?_);rintro e w1 ⟨v,rfl,hv,hb1⟩))
   | (go_at_call 215;((with_reducible refine (HVB _).out.mono ?_);rintro e w2 ⟨u,rfl,hu,hb2⟩))
   | (go_at_call 217;((with_reducible refine (rsign_64 _).mono ?_);rintro e w3 ⟨rfl,rfl⟩)))
 have hB:=bnext hb1 hb2
 go_quiet (fail)
 go_wp2
 exact bodyPost_ret (v:=.tuple #[.int .u64 (R:Int),.int .i64 0]) (by simp [results,Tryz.results148,go_sem,h1,h2,h3,h4]) rfl ⟨rfl,below_drewN hB _⟩
theorem RBin_64_7 (a b:Nat) (ha:a < 18446744073709551616) (hb:b < 18446744073709551616) (w:World) :
  Calls Tryz.prog 148 #[.int .i64 64,.int .i64 7,.int .u64 (a:Int),.int .u64 (b:Int)] w fun e w' => e=.returned (.tuple #[.int .u64 ((binW Ieee.double 9 9223372036854775808 9218868437227405312 9221120237041090560 52 (-1074) 7 (a % 18446744073709551616) (b % 18446744073709551616):Nat):Int),.int .i64 0])∧Below w.heap.size w w':=by
 have HCA:=fun W => hid (rcut_64 a ha W)
 have HCB:=fun W => hid (rcut_64 b hb W)
 have hc:a % 18446744073709551616 < 2 * 9223372036854775808:=by omega
 have hd:b % 18446744073709551616 < 2 * 9223372036854775808:=by omega
 generalize a % 18446744073709551616=c at *
 generalize b % 18446744073709551616=d at *
 have HVA:∀ W,Hid (Calls Tryz.prog 215 #[.int .i64 64,.int .u64 (c:Int)] W (VPost 9223372036854775808 9218868437227405312 c W)):=fun W => hid (by exact value_64 c hc W)
 have HVB:∀ W,Hid (Calls Tryz.prog 215 #[.int .i64 64,.int .u64 (d:Int)] W (VPost 9223372036854775808 9218868437227405312 d W)):=fun W => hid (by exact value_64 d hd W)
 obtain ⟨y,z,t,h1,h2,h3,h4⟩:=sign_math_64 c d hc hd
 exact RBc_64_7 a b c d y z t _ _ _ h1 h2 h3 h4 HCA HCB HVA HVB w
set_option maxRecDepth 20000 in
set_option maxHeartbeats 6400000 in
theorem RBc_64_5 (a b c d:Nat) (V U:Nat→Prop) (nx ny zx zy sa lt gt:Bool) (hw:Ways nx ny zx zy sa lt)
  (hsa:decide ((9223372036854775808:Int)≤(c:Int))=sa)
  (HCA:∀ W,Hid (Calls Tryz.prog 216 #[.int .i64 64,.int .u64 (a:Int)] W fun e w' => e=.returned (.int .u64 (c:Int))∧W=w'))
  (HCB:∀ W,Hid (Calls Tryz.prog 216 #[.int .i64 64,.int .u64 (b:Int)] W fun e w' => e=.returned (.int .u64 (d:Int))∧W=w'))
  (HVA:∀ W,Hid (Calls Tryz.prog 215 #[.int .i64 64,.int .u64 (c:Int)] W fun e w' => ∃ v:Nat,e=.returned (.float .f64 v)∧V v∧Below W.heap.size W w'))
  (HVB:∀ W,Hid (Calls Tryz.prog 215 #[.int .i64 64,.int .u64 (d:Int)] W fun e w' => ∃ v:Nat,e=.returned (.float .f64 v)∧U v∧Below W.heap.size W w'))
  (HNA:Hid (∀ v,V v→(FloatKind.f64.format.order v v != some .eq)=nx∧(FloatKind.f64.format.order v 0 == some .eq)=zx))
  (HNB:Hid (∀ u,U u→(FloatKind.f64.format.order u u != some .eq)=ny∧(FloatKind.f64.format.order u 0 == some .eq)=zy))
  (HO:Hid (∀ v u,V v→U u→(FloatKind.f64.format.order v u == some .lt)=lt∧(FloatKind.f64.format.order u v == some .lt)=gt)) (w:World) :
  Calls Tryz.prog 148 #[.int .i64 64,.int .i64 5,.int .u64 (a:Int),.int .u64 (b:Int)] w fun e w' => e=.returned (.tuple #[.int .u64 ((sel5 true nx ny zx zy sa lt 9221120237041090560 c d:Nat):Int),.int .i64 0])∧Below w.heap.size w w':=by
 rcases hw with rfl | ⟨rfl,rfl⟩ | ⟨rfl,rfl,rfl,rfl,rfl⟩ | ⟨rfl,rfl,rfl,rfl,rfl⟩ | ⟨rfl,rfl,rfl,rfl⟩ | ⟨rfl,rfl,rfl,rfl⟩ | ⟨rfl,rfl,rfl,rfl,rfl⟩ | ⟨rfl,rfl,rfl,rfl,rfl⟩
 all_goals
  go_enter Tryz.func148,Tryz.ntmps148
  go_wp2_with (first
   | (go_at_call 216;((with_reducible refine (HCA _).out.mono ?_);rintro e w1 ⟨rfl,rfl⟩))
   | (go_at_call 216;((with_reducible refine (HCB _).out.mono ?_);rintro e w1 ⟨rfl,rfl⟩))
   | (go_at_call 215;((with_reducible refine (HVA _).out.mono ?_);rintro e w1 ⟨v,rfl,hv,hb1⟩;obtain ⟨t1,t2⟩:=HNA.out v hv))
   | (go_at_call 215;((with_reducible refine (HVB _).out.mono ?_);rintro e w2 ⟨u,rfl,hu,hb2⟩;obtain ⟨t3,t4⟩:=HNB.out u hu;obtain ⟨t5,t6⟩:=HO.out v u hv hu))
   | (go_at_call 217;((with_reducible refine (rsign_64 _).mono ?_);rintro e w3 ⟨rfl,rfl⟩))
   | (go_at_call 225;((with_reducible refine (rcan_64 _).mono ?_);rintro e w3 ⟨rfl,rfl⟩)))
  go_ret2
  exact ⟨rfl,bnext hb1 hb2⟩
theorem RBin_64_5 (a b:Nat) (ha:a < 18446744073709551616) (hb:b < 18446744073709551616) (w:World) :
  Calls Tryz.prog 148 #[.int .i64 64,.int .i64 5,.int .u64 (a:Int),.int .u64 (b:Int)] w fun e w' => e=.returned (.tuple #[.int .u64 ((binW Ieee.double 9 9223372036854775808 9218868437227405312 9221120237041090560 52 (-1074) 5 (a % 18446744073709551616) (b % 18446744073709551616):Nat):Int),.int .i64 0])∧Below w.heap.size w w':=by
 have HCA:=fun W => hid (rcut_64 a ha W)
 have HCB:=fun W => hid (rcut_64 b hb W)
 have hc:a % 18446744073709551616 < 2 * 9223372036854775808:=by omega
 have hd:b % 18446744073709551616 < 2 * 9223372036854775808:=by omega
 generalize a % 18446744073709551616=c at *
 generalize b % 18446744073709551616=d at *
 have HVA:∀ W,Hid (Calls Tryz.prog 215 #[.int .i64 64,.int .u64 (c:Int)] W (VPost 9223372036854775808 9218868437227405312 c W)):=fun W => hid (by exact value_64 c hc W)
 have HVB:∀ W,Hid (Calls Tryz.prog 215 #[.int .i64 64,.int .u64 (d:Int)] W (VPost 9223372036854775808 9218868437227405312 d W)):=fun W => hid (by exact value_64 d hd W)
 have hz:(9223372036854775808:Nat)=2147483648∧9218868437227405312=2139095040 ∨ (9223372036854775808:Nat)=9223372036854775808∧9218868437227405312=9218868437227405312:=by decide
 have HNA:Hid (∀ v,ValOf 9223372036854775808 9218868437227405312 c v→(FloatKind.f64.format.order v v != some .eq)=decide (9218868437227405312 < c % 9223372036854775808)∧(FloatKind.f64.format.order v 0 == some .eq)=decide (c % 9223372036854775808=0)):=hid fun v hv => ⟨val_ne hc hv,val_eq0 hz hc hv⟩
 have HNB:Hid (∀ v,ValOf 9223372036854775808 9218868437227405312 d v→(FloatKind.f64.format.order v v != some .eq)=decide (9218868437227405312 < d % 9223372036854775808)∧(FloatKind.f64.format.order v 0 == some .eq)=decide (d % 9223372036854775808=0)):=hid fun v hv => ⟨val_ne hd hv,val_eq0 hz hd hv⟩
 have hlt:∀ {x y:Nat},x < 2 * 9223372036854775808→y < 2 * 9223372036854775808→∀ v u,ValOf 9223372036854775808 9218868437227405312 x v→ValOf 9223372036854775808 9218868437227405312 y u→(FloatKind.f64.format.order v u == some .lt)=(!nanW 9223372036854775808 9218868437227405312 x y && decide (rankOf 9223372036854775808 x < rankOf 9223372036854775808 y)):=fun {x y} hx hy v u hv hu => by
  have h:=order_val hx hy hv hu
  show (Ieee.double.order v u == some .lt)=_
  rw [h]
  unfold nanW
  by_cases hn:9218868437227405312 < x % 9223372036854775808 ∨ 9218868437227405312 < y % 9223372036854775808
  ·rw [if_pos hn,decide_eq_true hn];rfl
  ·rw [if_neg hn,decide_eq_false hn]
   rcases Int.lt_trichotomy (rankOf 9223372036854775808 x) (rankOf 9223372036854775808 y) with h1 | h1 | h1
   ·rw [cmp_lt h1,decide_eq_true h1];rfl
   ·rw [cmp_eq h1,decide_eq_false (by omega)];rfl
   ·rw [cmp_gt h1,decide_eq_false (by omega)];rfl
 have hs:decide ((9223372036854775808:Int)≤(c:Int))=decide (9223372036854775808≤c):=decide_eq_decide.2 (by omega)
 rw [← sel_min 9223372036854775808 9218868437227405312 9221120237041090560 c d Ieee.double 9 52 (-1074) (by decide) hc hd (by decide)]
 by_cases hn:9218868437227405312 < c % 9223372036854775808 ∨ 9218868437227405312 < d % 9223372036854775808
 ·have key:=fun L G => RBc_64_5 a b c d _ _ (decide (9218868437227405312 < c % 9223372036854775808)) (decide (9218868437227405312 < d % 9223372036854775808)) (decide (c % 9223372036854775808=0)) (decide (d % 9223372036854775808=0)) (decide (9223372036854775808≤c)) L G (ways _ _ _ _ _ _) hs HCA HCB HVA HVB HNA HNB
  have hsel:∀ L L',sel5 true (decide (9218868437227405312 < c % 9223372036854775808)) (decide (9218868437227405312 < d % 9223372036854775808)) (decide (c % 9223372036854775808=0)) (decide (d % 9223372036854775808=0)) (decide (9223372036854775808≤c)) L 9221120237041090560 c d=sel5 true (decide (9218868437227405312 < c % 9223372036854775808)) (decide (9218868437227405312 < d % 9223372036854775808)) (decide (c % 9223372036854775808=0)) (decide (d % 9223372036854775808=0)) (decide (9223372036854775808≤c)) L' 9221120237041090560 c d:=fun L L' => by
   unfold sel5
   rw [if_pos (by rcases hn with h | h <;> simp [h]),if_pos (by rcases hn with h | h <;> simp [h])]
  rw [hsel _ false]
  refine key false false (hid fun v u hv hu => ⟨?_,?_⟩) w
  ·rw [hlt hc hd v u hv hu];unfold nanW;rw [decide_eq_true hn];rfl
  ·rw [hlt hd hc u v hu hv];unfold nanW;rw [decide_eq_true (show 9218868437227405312 < d % 9223372036854775808 ∨ 9218868437227405312 < c % 9223372036854775808 by omega)];rfl
 ·refine RBc_64_5 a b c d _ _ _ _ _ _ _ _ (decide (rankOf 9223372036854775808 d < rankOf 9223372036854775808 c)) (ways _ _ _ _ _ _) hs HCA HCB HVA HVB HNA HNB (hid fun v u hv hu => ⟨?_,?_⟩) w
  ·rw [hlt hc hd v u hv hu];unfold nanW;rw [decide_eq_false hn];rfl
  ·rw [hlt hd hc u v hu hv];unfold nanW;rw [decide_eq_false (show ¬ (9218868437227405312 < d % 9223372036854775808 ∨ 9218868437227405312 < c % 9223372036854775808) by omega)];rfl
set_option maxRecDepth 20000 in
set_option maxHeartbeats 6400000 in
theorem RBc_64_6 (a b c d:Nat) (V U:Nat→Prop) (nx ny zx zy sa lt gt:Bool) (hw:Ways nx ny zx zy sa lt)
  (hsa:decide ((9223372036854775808:Int)≤(c:Int))=sa)
  (HCA:∀ W,Hid (Calls Tryz.prog 216 #[.int .i64 64,.int .u64 (a:Int)] W fun e w' => e=.returned (.int .u64 (c:Int))∧W=w'))
  (HCB:∀ W,Hid (Calls Tryz.prog 216 #[.int .i64 64,.int .u64 (b:Int)] W fun e w' => e=.returned (.int .u64 (d:Int))∧W=w'))
  (HVA:∀ W,Hid (Calls Tryz.prog 215 #[.int .i64 64,.int .u64 (c:Int)] W fun e w' => ∃ v:Nat,e=.returned (.float .f64 v)∧V v∧Below W.heap.size W w'))
  (HVB:∀ W,Hid (Calls Tryz.prog 215 #[.int .i64 64,.int .u64 (d:Int)] W fun e w' => ∃ v:Nat,e=.returned (.float .f64 v)∧U v∧Below W.heap.size W w'))
  (HNA:Hid (∀ v,V v→(FloatKind.f64.format.order v v != some .eq)=nx∧(FloatKind.f64.format.order v 0 == some .eq)=zx))
  (HNB:Hid (∀ u,U u→(FloatKind.f64.format.order u u != some .eq)=ny∧(FloatKind.f64.format.order u 0 == some .eq)=zy))
  (HO:Hid (∀ v u,V v→U u→(FloatKind.f64.format.order v u == some .lt)=lt∧(FloatKind.f64.format.order u v == some .lt)=gt)) (w:World) :
  Calls Tryz.prog 148 #[.int .i64 64,.int .i64 6,.int .u64 (a:Int),.int .u64 (b:Int)] w fun e w' => e=.returned (.tuple #[.int .u64 ((sel5 false nx ny zx zy sa lt 9221120237041090560 c d:Nat):Int),.int .i64 0])∧Below w.heap.size w w':=by
 rcases hw with rfl | ⟨rfl,rfl⟩ | ⟨rfl,rfl,rfl,rfl,rfl⟩ | ⟨rfl,rfl,rfl,rfl,rfl⟩ | ⟨rfl,rfl,rfl,rfl⟩ | ⟨rfl,rfl,rfl,rfl⟩ | ⟨rfl,rfl,rfl,rfl,rfl⟩ | ⟨rfl,rfl,rfl,rfl,rfl⟩
 all_goals
  go_enter Tryz.func148,Tryz.ntmps148
  go_wp2_with (first
   | (go_at_call 216;((with_reducible refine (HCA _).out.mono ?_);rintro e w1 ⟨rfl,rfl⟩))
   | (go_at_call 216;((with_reducible refine (HCB _).out.mono ?_);rintro e w1 ⟨rfl,rfl⟩))
   | (go_at_call 215;((with_reducible refine (HVA _).out.mono ?_);rintro e w1 ⟨v,rfl,hv,hb1⟩;obtain ⟨t1,t2⟩:=HNA.out v hv))
   | (go_at_call 215;((with_reducible refine (HVB _).out.mono ?_);rintro e w2 ⟨u,rfl,hu,hb2⟩;obtain ⟨t3,t4⟩:=HNB.out u hu;obtain ⟨t5,t6⟩:=HO.out v u hv hu))
   | (go_at_call 217;((with_reducible refine (rsign_64 _).mono ?_);rintro e w3 ⟨rfl,rfl⟩))
   | (go_at_call 225;((with_reducible refine (rcan_64 _).mono ?_);rintro e w3 ⟨rfl,rfl⟩)))
  go_ret2
  exact ⟨rfl,bnext hb1 hb2⟩
theorem RBin_64_6 (a b:Nat) (ha:a < 18446744073709551616) (hb:b < 18446744073709551616) (w:World) :
  Calls Tryz.prog 148 #[.int .i64 64,.int .i64 6,.int .u64 (a:Int),.int .u64 (b:Int)] w fun e w' => e=.returned (.tuple #[.int .u64 ((binW Ieee.double 9 9223372036854775808 9218868437227405312 9221120237041090560 52 (-1074) 6 (a % 18446744073709551616) (b % 18446744073709551616):Nat):Int),.int .i64 0])∧Below w.heap.size w w':=by
 have HCA:=fun W => hid (rcut_64 a ha W)
 have HCB:=fun W => hid (rcut_64 b hb W)
 have hc:a % 18446744073709551616 < 2 * 9223372036854775808:=by omega
 have hd:b % 18446744073709551616 < 2 * 9223372036854775808:=by omega
 generalize a % 18446744073709551616=c at *
 generalize b % 18446744073709551616=d at *
 have HVA:∀ W,Hid (Calls Tryz.prog 215 #[.int .i64 64,.int .u64 (c:Int)] W (VPost 9223372036854775808 9218868437227405312 c W)):=fun W => hid (by exact value_64 c hc W)
 have HVB:∀ W,Hid (Calls Tryz.prog 215 #[.int .i64 64,.int .u64 (d:Int)] W (VPost 9223372036854775808 9218868437227405312 d W)):=fun W => hid (by exact value_64 d hd W)
 have hz:(9223372036854775808:Nat)=2147483648∧9218868437227405312=2139095040 ∨ (9223372036854775808:Nat)=9223372036854775808∧9218868437227405312=9218868437227405312:=by decide
 have HNA:Hid (∀ v,ValOf 9223372036854775808 9218868437227405312 c v→(FloatKind.f64.format.order v v != some .eq)=decide (9218868437227405312 < c % 9223372036854775808)∧(FloatKind.f64.format.order v 0 == some .eq)=decide (c % 9223372036854775808=0)):=hid fun v hv => ⟨val_ne hc hv,val_eq0 hz hc hv⟩
 have HNB:Hid (∀ v,ValOf 9223372036854775808 9218868437227405312 d v→(FloatKind.f64.format.order v v != some .eq)=decide (9218868437227405312 < d % 9223372036854775808)∧(FloatKind.f64.format.order v 0 == some .eq)=decide (d % 9223372036854775808=0)):=hid fun v hv => ⟨val_ne hd hv,val_eq0 hz hd hv⟩
 have hlt:∀ {x y:Nat},x < 2 * 9223372036854775808→y < 2 * 9223372036854775808→∀ v u,ValOf 9223372036854775808 9218868437227405312 x v→ValOf 9223372036854775808 9218868437227405312 y u→(FloatKind.f64.format.order v u == some .lt)=(!nanW 9223372036854775808 9218868437227405312 x y && decide (rankOf 9223372036854775808 x < rankOf 9223372036854775808 y)):=fun {x y} hx hy v u hv hu => by
  have h:=order_val hx hy hv hu
  show (Ieee.double.order v u == some .lt)=_
  rw [h]
  unfold nanW
  by_cases hn:9218868437227405312 < x % 9223372036854775808 ∨ 9218868437227405312 < y % 9223372036854775808
  ·rw [if_pos hn,decide_eq_true hn];rfl
  ·rw [if_neg hn,decide_eq_false hn]
   rcases Int.lt_trichotomy (rankOf 9223372036854775808 x) (rankOf 9223372036854775808 y) with h1 | h1 | h1
   ·rw [cmp_lt h1,decide_eq_true h1];rfl
   ·rw [cmp_eq h1,decide_eq_false (by omega)];rfl
   ·rw [cmp_gt h1,decide_eq_false (by omega)];rfl
 have hs:decide ((9223372036854775808:Int)≤(c:Int))=decide (9223372036854775808≤c):=decide_eq_decide.2 (by omega)
 rw [← sel_max 9223372036854775808 9218868437227405312 9221120237041090560 c d Ieee.double 9 52 (-1074) (by decide) hc hd (by decide)]
 by_cases hn:9218868437227405312 < c % 9223372036854775808 ∨ 9218868437227405312 < d % 9223372036854775808
 ·have key:=fun L G => RBc_64_6 a b c d _ _ (decide (9218868437227405312 < c % 9223372036854775808)) (decide (9218868437227405312 < d % 9223372036854775808)) (decide (c % 9223372036854775808=0)) (decide (d % 9223372036854775808=0)) (decide (9223372036854775808≤c)) L G (ways _ _ _ _ _ _) hs HCA HCB HVA HVB HNA HNB
  have hsel:∀ L L',sel5 false (decide (9218868437227405312 < c % 9223372036854775808)) (decide (9218868437227405312 < d % 9223372036854775808)) (decide (c % 9223372036854775808=0)) (decide (d % 9223372036854775808=0)) (decide (9223372036854775808≤c)) L 9221120237041090560 c d=sel5 false (decide (9218868437227405312 < c % 9223372036854775808)) (decide (9218868437227405312 < d % 9223372036854775808)) (decide (c % 9223372036854775808=0)) (decide (d % 9223372036854775808=0)) (decide (9223372036854775808≤c)) L' 9221120237041090560 c d:=fun L L' => by
   unfold sel5
   rw [if_pos (by rcases hn with h | h <;> simp [h]),if_pos (by rcases hn with h | h <;> simp [h])]
  rw [hsel _ false]
  refine key false false (hid fun v u hv hu => ⟨?_,?_⟩) w
  ·rw [hlt hc hd v u hv hu];unfold nanW;rw [decide_eq_true hn];rfl
  ·rw [hlt hd hc u v hu hv];unfold nanW;rw [decide_eq_true (show 9218868437227405312 < d % 9223372036854775808 ∨ 9218868437227405312 < c % 9223372036854775808 by omega)];rfl
 ·refine RBc_64_6 a b c d _ _ _ _ _ _ _ _ (decide (rankOf 9223372036854775808 d < rankOf 9223372036854775808 c)) (ways _ _ _ _ _ _) hs HCA HCB HVA HVB HNA HNB (hid fun v u hv hu => ⟨?_,?_⟩) w
  ·rw [hlt hc hd v u hv hu];unfold nanW;rw [decide_eq_false hn];rfl
  ·rw [hlt hd hc u v hu hv];unfold nanW;rw [decide_eq_false (show ¬ (9218868437227405312 < d % 9223372036854775808 ∨ 9218868437227405312 < c % 9223372036854775808) by omega)];rfl
set_option maxRecDepth 20000 in
set_option maxHeartbeats 6400000 in
theorem RBc_64_8 (a b c d:Nat) (V U:Nat→Prop) (nx ny zx zy sa lt gt:Bool)
  (hsa:decide ((9223372036854775808:Int)≤(c:Int))=sa)
  (HCA:∀ W,Hid (Calls Tryz.prog 216 #[.int .i64 64,.int .u64 (a:Int)] W fun e w' => e=.returned (.int .u64 (c:Int))∧W=w'))
  (HCB:∀ W,Hid (Calls Tryz.prog 216 #[.int .i64 64,.int .u64 (b:Int)] W fun e w' => e=.returned (.int .u64 (d:Int))∧W=w'))
  (HVA:∀ W,Hid (Calls Tryz.prog 215 #[.int .i64 64,.int .u64 (c:Int)] W fun e w' => ∃ v:Nat,e=.returned (.float .f64 v)∧V v∧Below W.heap.size W w'))
  (HVB:∀ W,Hid (Calls Tryz.prog 215 #[.int .i64 64,.int .u64 (d:Int)] W fun e w' => ∃ v:Nat,e=.returned (.float .f64 v)∧U v∧Below W.heap.size W w'))
  (HNA:Hid (∀ v,V v→(FloatKind.f64.format.order v v != some .eq)=nx∧(FloatKind.f64.format.order v 0 == some .eq)=zx))
  (HNB:Hid (∀ u,U u→(FloatKind.f64.format.order u u != some .eq)=ny∧(FloatKind.f64.format.order u 0 == some .eq)=zy))
  (HO:Hid (∀ v u,V v→U u→(FloatKind.f64.format.order v u == some .lt)=lt∧(FloatKind.f64.format.order u v == some .lt)=gt)) (w:World) :
  Calls Tryz.prog 148 #[.int .i64 64,.int .i64 8,.int .u64 (a:Int),.int .u64 (b:Int)] w fun e w' => e=.returned (.tuple #[.int .u64 (((if gt=true then d else c:Nat)):Int),.int .i64 0])∧Below w.heap.size w w':=by
 cases gt
 all_goals
  go_enter Tryz.func148,Tryz.ntmps148
  go_wp2_with (first
   | (go_at_call 216;((with_reducible refine (HCA _).out.mono ?_);rintro e w1 ⟨rfl,rfl⟩))
   | (go_at_call 216;((with_reducible refine (HCB _).out.mono ?_);rintro e w1 ⟨rfl,rfl⟩))
   | (go_at_call 215;((with_reducible refine (HVA _).out.mono ?_);rintro e w1 ⟨v,rfl,hv,hb1⟩;obtain ⟨t1,t2⟩:=HNA.out v hv))
   | (go_at_call 215;((with_reducible refine (HVB _).out.mono ?_);rintro e w2 ⟨u,rfl,hu,hb2⟩;obtain ⟨t3,t4⟩:=HNB.out u hu;obtain ⟨t5,t6⟩:=HO.out v u hv hu))
   | (go_at_call 217;((with_reducible refine (rsign_64 _).mono ?_);rintro e w3 ⟨rfl,rfl⟩))
   | (go_at_call 225;((with_reducible refine (rcan_64 _).mono ?_);rintro e w3 ⟨rfl,rfl⟩)))
  go_ret2
  exact ⟨rfl,bnext hb1 hb2⟩
theorem RBin_64_8 (a b:Nat) (ha:a < 18446744073709551616) (hb:b < 18446744073709551616) (w:World) :
  Calls Tryz.prog 148 #[.int .i64 64,.int .i64 8,.int .u64 (a:Int),.int .u64 (b:Int)] w fun e w' => e=.returned (.tuple #[.int .u64 ((binW Ieee.double 9 9223372036854775808 9218868437227405312 9221120237041090560 52 (-1074) 8 (a % 18446744073709551616) (b % 18446744073709551616):Nat):Int),.int .i64 0])∧Below w.heap.size w w':=by
 have HCA:=fun W => hid (rcut_64 a ha W)
 have HCB:=fun W => hid (rcut_64 b hb W)
 have hc:a % 18446744073709551616 < 2 * 9223372036854775808:=by omega
 have hd:b % 18446744073709551616 < 2 * 9223372036854775808:=by omega
 generalize a % 18446744073709551616=c at *
 generalize b % 18446744073709551616=d at *
 have HVA:∀ W,Hid (Calls Tryz.prog 215 #[.int .i64 64,.int .u64 (c:Int)] W (VPost 9223372036854775808 9218868437227405312 c W)):=fun W => hid (by exact value_64 c hc W)
 have HVB:∀ W,Hid (Calls Tryz.prog 215 #[.int .i64 64,.int .u64 (d:Int)] W (VPost 9223372036854775808 9218868437227405312 d W)):=fun W => hid (by exact value_64 d hd W)
 have hz:(9223372036854775808:Nat)=2147483648∧9218868437227405312=2139095040 ∨ (9223372036854775808:Nat)=9223372036854775808∧9218868437227405312=9218868437227405312:=by decide
 have HNA:Hid (∀ v,ValOf 9223372036854775808 9218868437227405312 c v→(FloatKind.f64.format.order v v != some .eq)=decide (9218868437227405312 < c % 9223372036854775808)∧(FloatKind.f64.format.order v 0 == some .eq)=decide (c % 9223372036854775808=0)):=hid fun v hv => ⟨val_ne hc hv,val_eq0 hz hc hv⟩
 have HNB:Hid (∀ v,ValOf 9223372036854775808 9218868437227405312 d v→(FloatKind.f64.format.order v v != some .eq)=decide (9218868437227405312 < d % 9223372036854775808)∧(FloatKind.f64.format.order v 0 == some .eq)=decide (d % 9223372036854775808=0)):=hid fun v hv => ⟨val_ne hd hv,val_eq0 hz hd hv⟩
 have hlt:∀ {x y:Nat},x < 2 * 9223372036854775808→y < 2 * 9223372036854775808→∀ v u,ValOf 9223372036854775808 9218868437227405312 x v→ValOf 9223372036854775808 9218868437227405312 y u→(FloatKind.f64.format.order v u == some .lt)=(!nanW 9223372036854775808 9218868437227405312 x y && decide (rankOf 9223372036854775808 x < rankOf 9223372036854775808 y)):=fun {x y} hx hy v u hv hu => by
  have h:=order_val hx hy hv hu
  show (Ieee.double.order v u == some .lt)=_
  rw [h]
  unfold nanW
  by_cases hn:9218868437227405312 < x % 9223372036854775808 ∨ 9218868437227405312 < y % 9223372036854775808
  ·rw [if_pos hn,decide_eq_true hn];rfl
  ·rw [if_neg hn,decide_eq_false hn]
   rcases Int.lt_trichotomy (rankOf 9223372036854775808 x) (rankOf 9223372036854775808 y) with h1 | h1 | h1
   ·rw [cmp_lt h1,decide_eq_true h1];rfl
   ·rw [cmp_eq h1,decide_eq_false (by omega)];rfl
   ·rw [cmp_gt h1,decide_eq_false (by omega)];rfl
 have hs:decide ((9223372036854775808:Int)≤(c:Int))=decide (9223372036854775808≤c):=decide_eq_decide.2 (by omega)
 have hres:binW Ieee.double 9 9223372036854775808 9218868437227405312 9221120237041090560 52 (-1074) 8 c d=if (!nanW 9223372036854775808 9218868437227405312 c d && decide (rankOf 9223372036854775808 d < rankOf 9223372036854775808 c))=true then d else c:=rfl
 rw [hres]
 have hnn:nanW 9223372036854775808 9218868437227405312 c d=nanW 9223372036854775808 9218868437227405312 d c:=by unfold nanW;exact decide_eq_decide.2 (by omega)
 have HO:Hid (∀ v u,ValOf 9223372036854775808 9218868437227405312 c v→ValOf 9223372036854775808 9218868437227405312 d u→(FloatKind.f64.format.order v u == some .lt)=(!nanW 9223372036854775808 9218868437227405312 c d && decide (rankOf 9223372036854775808 c < rankOf 9223372036854775808 d))∧(FloatKind.f64.format.order u v == some .lt)=(!nanW 9223372036854775808 9218868437227405312 c d && decide (rankOf 9223372036854775808 d < rankOf 9223372036854775808 c))) :=
  hid fun v u hv hu => ⟨hlt hc hd v u hv hu,by rw [hnn];exact hlt hd hc u v hu hv⟩
 exact RBc_64_8 a b c d _ _ _ _ _ _ _ _ _ hs HCA HCB HVA HVB HNA HNB HO w
set_option maxRecDepth 20000 in
set_option maxHeartbeats 6400000 in
theorem RBc_64_9 (a b c d:Nat) (V U:Nat→Prop) (nx ny zx zy sa lt gt:Bool)
  (hsa:decide ((9223372036854775808:Int)≤(c:Int))=sa)
  (HCA:∀ W,Hid (Calls Tryz.prog 216 #[.int .i64 64,.int .u64 (a:Int)] W fun e w' => e=.returned (.int .u64 (c:Int))∧W=w'))
  (HCB:∀ W,Hid (Calls Tryz.prog 216 #[.int .i64 64,.int .u64 (b:Int)] W fun e w' => e=.returned (.int .u64 (d:Int))∧W=w'))
  (HVA:∀ W,Hid (Calls Tryz.prog 215 #[.int .i64 64,.int .u64 (c:Int)] W fun e w' => ∃ v:Nat,e=.returned (.float .f64 v)∧V v∧Below W.heap.size W w'))
  (HVB:∀ W,Hid (Calls Tryz.prog 215 #[.int .i64 64,.int .u64 (d:Int)] W fun e w' => ∃ v:Nat,e=.returned (.float .f64 v)∧U v∧Below W.heap.size W w'))
  (HNA:Hid (∀ v,V v→(FloatKind.f64.format.order v v != some .eq)=nx∧(FloatKind.f64.format.order v 0 == some .eq)=zx))
  (HNB:Hid (∀ u,U u→(FloatKind.f64.format.order u u != some .eq)=ny∧(FloatKind.f64.format.order u 0 == some .eq)=zy))
  (HO:Hid (∀ v u,V v→U u→(FloatKind.f64.format.order v u == some .lt)=lt∧(FloatKind.f64.format.order u v == some .lt)=gt)) (w:World) :
  Calls Tryz.prog 148 #[.int .i64 64,.int .i64 9,.int .u64 (a:Int),.int .u64 (b:Int)] w fun e w' => e=.returned (.tuple #[.int .u64 (((if lt=true then d else c:Nat)):Int),.int .i64 0])∧Below w.heap.size w w':=by
 cases lt
 all_goals
  go_enter Tryz.func148,Tryz.ntmps148
  go_wp2_with (first
   | (go_at_call 216;((with_reducible refine (HCA _).out.mono ?_);rintro e w1 ⟨rfl,rfl⟩))
   | (go_at_call 216;((with_reducible refine (HCB _).out.mono ?_);rintro e w1 ⟨rfl,rfl⟩))
   | (go_at_call 215;((with_reducible refine (HVA _).out.mono ?_);rintro e w1 ⟨v,rfl,hv,hb1⟩;obtain ⟨t1,t2⟩:=HNA.out v hv))
   | (go_at_call 215;((with_reducible refine (HVB _).out.mono ?_);rintro e w2 ⟨u,rfl,hu,hb2⟩;obtain ⟨t3,t4⟩:=HNB.out u hu;obtain ⟨t5,t6⟩:=HO.out v u hv hu))
   | (go_at_call 217;((with_reducible refine (rsign_64 _).mono ?_);rintro e w3 ⟨rfl,rfl⟩))
   | (go_at_call 225;((with_reducible refine (rcan_64 _).mono ?_);rintro e w3 ⟨rfl,rfl⟩)))
  go_ret2
  exact ⟨rfl,bnext hb1 hb2⟩
theorem RBin_64_9 (a b:Nat) (ha:a < 18446744073709551616) (hb:b < 18446744073709551616) (w:World) :
  Calls Tryz.prog 148 #[.int .i64 64,.int .i64 9,.int .u64 (a:Int),.int .u64 (b:Int)] w fun e w' => e=.returned (.tuple #[.int .u64 ((binW Ieee.double 9 9223372036854775808 9218868437227405312 9221120237041090560 52 (-1074) 9 (a % 18446744073709551616) (b % 18446744073709551616):Nat):Int),.int .i64 0])∧Below w.heap.size w w':=by
 have HCA:=fun W => hid (rcut_64 a ha W)
 have HCB:=fun W => hid (rcut_64 b hb W)
 have hc:a % 18446744073709551616 < 2 * 9223372036854775808:=by omega
 have hd:b % 18446744073709551616 < 2 * 9223372036854775808:=by omega
 generalize a % 18446744073709551616=c at *
 generalize b % 18446744073709551616=d at *
 have HVA:∀ W,Hid (Calls Tryz.prog 215 #[.int .i64 64,.int .u64 (c:Int)] W (VPost 9223372036854775808 9218868437227405312 c W)):=fun W => hid (by exact value_64 c hc W)
 have HVB:∀ W,Hid (Calls Tryz.prog 215 #[.int .i64 64,.int .u64 (d:Int)] W (VPost 9223372036854775808 9218868437227405312 d W)):=fun W => hid (by exact value_64 d hd W)
 have hz:(9223372036854775808:Nat)=2147483648∧9218868437227405312=2139095040 ∨ (9223372036854775808:Nat)=9223372036854775808∧9218868437227405312=9218868437227405312:=by decide
 have HNA:Hid (∀ v,ValOf 9223372036854775808 9218868437227405312 c v→(FloatKind.f64.format.order v v != some .eq)=decide (9218868437227405312 < c % 9223372036854775808)∧(FloatKind.f64.format.order v 0 == some .eq)=decide (c % 9223372036854775808=0)):=hid fun v hv => ⟨val_ne hc hv,val_eq0 hz hc hv⟩
 have HNB:Hid (∀ v,ValOf 9223372036854775808 9218868437227405312 d v→(FloatKind.f64.format.order v v != some .eq)=decide (9218868437227405312 < d % 9223372036854775808)∧(FloatKind.f64.format.order v 0 == some .eq)=decide (d % 9223372036854775808=0)):=hid fun v hv => ⟨val_ne hd hv,val_eq0 hz hd hv⟩
 have hlt:∀ {x y:Nat},x < 2 * 9223372036854775808→y < 2 * 9223372036854775808→∀ v u,ValOf 9223372036854775808 9218868437227405312 x v→ValOf 9223372036854775808 9218868437227405312 y u→(FloatKind.f64.format.order v u == some .lt)=(!nanW 9223372036854775808 9218868437227405312 x y && decide (rankOf 9223372036854775808 x < rankOf 9223372036854775808 y)):=fun {x y} hx hy v u hv hu => by
  have h:=order_val hx hy hv hu
  show (Ieee.double.order v u == some .lt)=_
  rw [h]
  unfold nanW
  by_cases hn:9218868437227405312 < x % 9223372036854775808 ∨ 9218868437227405312 < y % 9223372036854775808
  ·rw [if_pos hn,decide_eq_true hn];rfl
  ·rw [if_neg hn,decide_eq_false hn]
   rcases Int.lt_trichotomy (rankOf 9223372036854775808 x) (rankOf 9223372036854775808 y) with h1 | h1 | h1
   ·rw [cmp_lt h1,decide_eq_true h1];rfl
   ·rw [cmp_eq h1,decide_eq_false (by omega)];rfl
   ·rw [cmp_gt h1,decide_eq_false (by omega)];rfl
 have hs:decide ((9223372036854775808:Int)≤(c:Int))=decide (9223372036854775808≤c):=decide_eq_decide.2 (by omega)
 have hres:binW Ieee.double 9 9223372036854775808 9218868437227405312 9221120237041090560 52 (-1074) 9 c d=if (!nanW 9223372036854775808 9218868437227405312 c d && decide (rankOf 9223372036854775808 c < rankOf 9223372036854775808 d))=true then d else c:=rfl
 rw [hres]
 have hnn:nanW 9223372036854775808 9218868437227405312 c d=nanW 9223372036854775808 9218868437227405312 d c:=by unfold nanW;exact decide_eq_decide.2 (by omega)
 have HO:Hid (∀ v u,ValOf 9223372036854775808 9218868437227405312 c v→ValOf 9223372036854775808 9218868437227405312 d u→(FloatKind.f64.format.order v u == some .lt)=(!nanW 9223372036854775808 9218868437227405312 c d && decide (rankOf 9223372036854775808 c < rankOf 9223372036854775808 d))∧(FloatKind.f64.format.order u v == some .lt)=(!nanW 9223372036854775808 9218868437227405312 c d && decide (rankOf 9223372036854775808 d < rankOf 9223372036854775808 c))) :=
  hid fun v u hv hu => ⟨hlt hc hd v u hv hu,by rw [hnn];exact hlt hd hc u v hu hv⟩
 exact RBc_64_9 a b c d _ _ _ _ _ _ _ _ _ hs HCA HCB HVA HVB HNA HNB HO w
end Go.Proofs.YtlhakbkdlgejpaaGreatDoor.Fl
