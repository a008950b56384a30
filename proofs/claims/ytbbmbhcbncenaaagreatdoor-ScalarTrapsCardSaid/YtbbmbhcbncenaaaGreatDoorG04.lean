/-
  SFam, Div, Shift, SatMath, RefList, SEf: merged, what the law does not reach left out (each text says what it holds where it lies in wip). No condition.
-/
import Derived.Test.YtbbmbhcbncenaaaGreatDoorG03
import Derived.Test.YtbbmbhcbncenaaaGreatDoorG02
import Derived.Test.YtbbmbhcbncenaaaGreatDoorG01
import Derived.Test.YtbbmbhcbncenaaaGreatDoorRows
import Derived.Lib.UnsafeStr
import Derived.Laws.AppendOwnNone
import Derived.OwnWalk
set_option linter.unusedSimpArgs false
set_option linter.unusedVariables false
set_option maxRecDepth 100000
namespace Go.Proofs.YtbbmbhcbncenaaaGreatDoor.Sc
open Go.RowKit
structure GlobF (w : World) : Prop where
 g : Glob w
 c6 : ∀ j,j < 7 → w.cell? ⟨1,j,none⟩ = some (.int .i64 (glob6.getD j 0))
theorem GlobF.next {w w' : World} (h : GlobF w) (hb : Below w.heap.size w w') : GlobF w' where
 g := h.g.next hb
 c6 j hj := by rw [hb.cell (p := ⟨1,j,none⟩) (Nat.lt_of_lt_of_le (show 1 < 6 by decide) h.g.size),h.c6 j hj]
def Ans (f : FuncId) (args : Array Value) (r : Value) : Prop := ∀ W : World,Calls Tryz.prog f args W fun e w' => e = .returned r ∧ Below W.heap.size W w'
def AnsG (f : FuncId) (args : Array Value) (r : Value) : Prop := ∀ W : World,GlobF W → Calls Tryz.prog f args W fun e w' => e = .returned r ∧ Below W.heap.size W w'
theorem Ans.g {f : FuncId} {args : Array Value} {r : Value} (h : Ans f args r) : AnsG f args r := fun W _ => h W
theorem bit_says (b : Bool) : Ans 35 #[.bool b] (.int .u64 ((if b then 1 else 0 : Nat) : Int)) := fun w => by
 cases b
 all_goals (go_enter Tryz.func35,Tryz.ntmps35; go_wp2; go_ret; exact ⟨rfl,Below.refl _ _⟩)
def cutT (t : Int) (n : Nat) : Nat := if t = 127 ∨ t = 125 then n % 4294967296 else n
theorem cut_says (t : Int) (n : Nat) (w : World) : Calls Tryz.prog 21 #[.int .i64 t,.int .u64 n] w fun e w' => e = .returned (.int .u64 (cutT t n : Nat)) ∧ w = w' := by
 have hw : IntKind.u32.wrap (n : Int) = ((n % 4294967296 : Nat) : Int) := by rw [IntKind.wrap_u32]; omega
 have hw2 : IntKind.u64.wrap ((n % 4294967296 : Nat) : Int) = ((n % 4294967296 : Nat) : Int) := by rw [IntKind.wrap_u64]; omega
 by_cases h1 : t = 127
 ·have hc : cutT t n = n % 4294967296 := by unfold cutT; rw [if_pos (.inl h1)]
  rw [hc]
  generalize n % 4294967296 = m at *
  have d : (t == 127) = true := by simpa using h1
  clear h1 hc
  go_enter Tryz.func21,Tryz.ntmps21
  go_wp2
  go_ret
  exact ⟨rfl,rfl⟩
 ·have d : (t == 127) = false := by simpa using h1
  by_cases h2 : t = 125
  ·have hc : cutT t n = n % 4294967296 := by unfold cutT; rw [if_pos (.inr h2)]
   rw [hc]
   generalize n % 4294967296 = m at *
   have d2 : (t == 125) = true := by simpa using h2
   clear h1 h2 hc
   go_enter Tryz.func21,Tryz.ntmps21
   go_wp2
   go_ret
   exact ⟨rfl,rfl⟩
  ·have hc : cutT t n = n := by unfold cutT; rw [if_neg (by omega)]
   rw [hc]
   have d2 : (t == 125) = false := by simpa using h2
   clear h1 h2 hc hw hw2
   go_enter Tryz.func21,Tryz.ntmps21
   go_wp2
   go_ret
   exact ⟨rfl,rfl⟩
theorem variant_says (p : Int) (h0 : 0 ≤ p) (h1 : p < 4) : Ans 80 #[.int .i64 p] (.tuple #[.int .i64 (if p < 2 then 32 else 64),.bool (p == 0 || p == 2)]) := fun w => by
 rcases (show p = 0 ∨ p = 1 ∨ p = 2 ∨ p = 3 by omega) with rfl | rfl | rfl | rfl
 all_goals (go_enter Tryz.func80,Tryz.ntmps80; go_wp2; go_ret2; exact ⟨rfl,Below.refl _ _⟩)
theorem truncated_says (tb p : Int) (sat : Bool) (a : Nat) (h0 : 0 ≤ p) (h1 : p < 4) (r r2 : Int) (HC : Ans 81 #[.int .i64 (if p < 2 then 32 else 64),.int .i64 tb,.bool (p == 0 || p == 2),.bool sat,.int .u64 a] (.tuple #[.int .u64 r,.int .i64 r2])) :
  Ans 39 #[.int .i64 tb,.int .i64 p,.bool sat,.int .u64 a] (.tuple #[.int .u64 r,.int .i64 r2]) := fun w => by
 have HV := fun W => hid (variant_says p h0 h1 W)
 have HCC := fun W => hid (HC W)
 generalize (if p < 2 then 32 else 64 : Int) = x at *
 generalize (p == 0 || p == 2) = y at *
 clear HC h0 h1
 go_enter Tryz.func39,Tryz.ntmps39
 go_wp2_with (first
  | (go_at_call 80; refine (HV _).out.mono ?_; rintro e w1 ⟨rfl,hb1⟩; have HB1 := hid hb1; clear hb1)
  | (go_at_call 81; refine (HCC _).out.mono ?_; rintro e w2 ⟨rfl,hb2⟩; have HB2 := hid (HB1.out.trans (hb2.mono HB1.out.size)); clear hb2))
 go_ret2
 exact ⟨rfl,HB2.out⟩
theorem floated_says (tb p : Int) (a : Nat) (h0 : 0 ≤ p) (h1 : p < 4) (r r2 : Int) (HC : Ans 137 #[.int .i64 (if p < 2 then 32 else 64),.int .i64 tb,.bool (p == 0 || p == 2),.int .u64 a] (.tuple #[.int .u64 r,.int .i64 r2])) :
  Ans 72 #[.int .i64 tb,.int .i64 p,.int .u64 a] (.tuple #[.int .u64 r,.int .i64 r2]) := fun w => by
 have HV := fun W => hid (variant_says p h0 h1 W)
 have HCC := fun W => hid (HC W)
 generalize (if p < 2 then 32 else 64 : Int) = x at *
 generalize (p == 0 || p == 2) = y at *
 clear HC h0 h1
 go_enter Tryz.func72,Tryz.ntmps72
 go_wp2_with (first
  | (go_at_call 80; refine (HV _).out.mono ?_; rintro e w1 ⟨rfl,hb1⟩; have HB1 := hid hb1; clear hb1)
  | (go_at_call 137; refine (HCC _).out.mono ?_; rintro e w2 ⟨rfl,hb2⟩; have HB2 := hid (HB1.out.trans (hb2.mono HB1.out.size)); clear hb2))
 go_ret2
 exact ⟨rfl,HB2.out⟩
set_option maxHeartbeats 1000000 in
theorem cmp_ez32 (op : Int) (h0 : 69 ≤ op) (h1 : op < 70) (a b : Nat) (r : Bool) (r2 : Int) (HC : Ans 66 #[.int .i64 32,.int .i64 1,.int .u64 a,.int .u64 0] (.tuple #[.bool r,.int .i64 r2])) : Ans 34 #[.int .i64 op,.int .u64 a,.int .u64 b] (.tuple #[.bool r,.int .i64 r2]) := fun w => by
 have HCC := fun W => hid (HC W)
 have d0 : (op == 69) = true := by simp; omega
 clear HC h0 h1
 go_enter Tryz.func34,Tryz.ntmps34
 go_wp2_with (first
  | (go_at_call 66; (with_reducible refine (HCC _).out.mono ?_); rintro e w1 ⟨rfl,hb1⟩; have HB1 := hid hb1; clear hb1))
 go_ret2
 exact ⟨rfl,HB1.out⟩
set_option maxHeartbeats 1000000 in
theorem cmp_i32 (op : Int) (q : Int) (hq : q = op - 69) (h0 : 70 ≤ op) (h1 : op < 80) (a b : Nat) (r : Bool) (r2 : Int) (HC : Ans 66 #[.int .i64 32,.int .i64 q,.int .u64 a,.int .u64 b] (.tuple #[.bool r,.int .i64 r2])) : Ans 34 #[.int .i64 op,.int .u64 a,.int .u64 b] (.tuple #[.bool r,.int .i64 r2]) := fun w => by
 have HCC := fun W => hid (HC W)
 have d0 : (op == 69) = false := by simp; omega
 have d1 : decide (op < 80) = true := by simp; omega
 obtain ⟨p,hp⟩ : ∃ p,p = 1 + op := ⟨_,rfl⟩
 have e1 : wrap64 (1 + op) = p := by unfold wrap64; omega
 have e2 : wrap64 (p - 70) = q := by unfold wrap64; omega
 clear HC h0 h1 hq hp
 go_enter Tryz.func34,Tryz.ntmps34
 go_wp2_with (first
  | (go_at_call 66; (with_reducible refine (HCC _).out.mono ?_); rintro e w1 ⟨rfl,hb1⟩; have HB1 := hid hb1; clear hb1))
 go_ret2
 exact ⟨rfl,HB1.out⟩
set_option maxHeartbeats 1000000 in
theorem cmp_ez64 (op : Int) (h0 : 80 ≤ op) (h1 : op < 81) (a b : Nat) (r : Bool) (r2 : Int) (HC : Ans 66 #[.int .i64 64,.int .i64 1,.int .u64 a,.int .u64 0] (.tuple #[.bool r,.int .i64 r2])) : Ans 34 #[.int .i64 op,.int .u64 a,.int .u64 b] (.tuple #[.bool r,.int .i64 r2]) := fun w => by
 have HCC := fun W => hid (HC W)
 have d0 : (op == 69) = false := by simp; omega
 have d1 : decide (op < 80) = false := by simp; omega
 have d2 : (op == 80) = true := by simp; omega
 clear HC h0 h1
 go_enter Tryz.func34,Tryz.ntmps34
 go_wp2_with (first
  | (go_at_call 66; (with_reducible refine (HCC _).out.mono ?_); rintro e w1 ⟨rfl,hb1⟩; have HB1 := hid hb1; clear hb1))
 go_ret2
 exact ⟨rfl,HB1.out⟩
set_option maxHeartbeats 1000000 in
theorem cmp_i64 (op : Int) (q : Int) (hq : q = op - 80) (h0 : 81 ≤ op) (h1 : op < 91) (a b : Nat) (r : Bool) (r2 : Int) (HC : Ans 66 #[.int .i64 64,.int .i64 q,.int .u64 a,.int .u64 b] (.tuple #[.bool r,.int .i64 r2])) : Ans 34 #[.int .i64 op,.int .u64 a,.int .u64 b] (.tuple #[.bool r,.int .i64 r2]) := fun w => by
 have HCC := fun W => hid (HC W)
 have d0 : (op == 69) = false := by simp; omega
 have d1 : decide (op < 80) = false := by simp; omega
 have d2 : (op == 80) = false := by simp; omega
 have d3 : decide (op < 91) = true := by simp; omega
 obtain ⟨p,hp⟩ : ∃ p,p = 1 + op := ⟨_,rfl⟩
 have e1 : wrap64 (1 + op) = p := by unfold wrap64; omega
 have e2 : wrap64 (p - 81) = q := by unfold wrap64; omega
 clear HC h0 h1 hq hp
 go_enter Tryz.func34,Tryz.ntmps34
 go_wp2_with (first
  | (go_at_call 66; (with_reducible refine (HCC _).out.mono ?_); rintro e w1 ⟨rfl,hb1⟩; have HB1 := hid hb1; clear hb1))
 go_ret2
 exact ⟨rfl,HB1.out⟩
set_option maxHeartbeats 1000000 in
theorem cmp_f32 (op : Int) (q : Int) (hq : q = op - 90) (h0 : 91 ≤ op) (h1 : op < 97) (a b : Nat) (r : Bool) (r2 : Int) (HC : Ans 67 #[.int .i64 32,.int .i64 q,.int .u64 a,.int .u64 b] (.tuple #[.bool r,.int .i64 r2])) : Ans 34 #[.int .i64 op,.int .u64 a,.int .u64 b] (.tuple #[.bool r,.int .i64 r2]) := fun w => by
 have HCC := fun W => hid (HC W)
 have d0 : (op == 69) = false := by simp; omega
 have d1 : decide (op < 80) = false := by simp; omega
 have d2 : (op == 80) = false := by simp; omega
 have d3 : decide (op < 91) = false := by simp; omega
 have d4 : decide (op < 97) = true := by simp; omega
 obtain ⟨p,hp⟩ : ∃ p,p = 1 + op := ⟨_,rfl⟩
 have e1 : wrap64 (1 + op) = p := by unfold wrap64; omega
 have e2 : wrap64 (p - 91) = q := by unfold wrap64; omega
 clear HC h0 h1 hq hp
 go_enter Tryz.func34,Tryz.ntmps34
 go_wp2_with (first
  | (go_at_call 67; (with_reducible refine (HCC _).out.mono ?_); rintro e w1 ⟨rfl,hb1⟩; have HB1 := hid hb1; clear hb1))
 go_ret2
 exact ⟨rfl,HB1.out⟩
set_option maxHeartbeats 1000000 in
theorem cmp_f64 (op : Int) (q : Int) (hq : q = op - 96) (h0 : 97 ≤ op) (h1 : op < 103) (a b : Nat) (r : Bool) (r2 : Int) (HC : Ans 67 #[.int .i64 64,.int .i64 q,.int .u64 a,.int .u64 b] (.tuple #[.bool r,.int .i64 r2])) : Ans 34 #[.int .i64 op,.int .u64 a,.int .u64 b] (.tuple #[.bool r,.int .i64 r2]) := fun w => by
 have HCC := fun W => hid (HC W)
 have d0 : (op == 69) = false := by simp; omega
 have d1 : decide (op < 80) = false := by simp; omega
 have d2 : (op == 80) = false := by simp; omega
 have d3 : decide (op < 91) = false := by simp; omega
 have d4 : decide (op < 97) = false := by simp; omega
 obtain ⟨p,hp⟩ : ∃ p,p = 1 + op := ⟨_,rfl⟩
 have e1 : wrap64 (1 + op) = p := by unfold wrap64; omega
 have e2 : wrap64 (p - 97) = q := by unfold wrap64; omega
 clear HC h0 h1 hq hp
 go_enter Tryz.func34,Tryz.ntmps34
 go_wp2_with (first
  | (go_at_call 67; (with_reducible refine (HCC _).out.mono ?_); rintro e w1 ⟨rfl,hb1⟩; have HB1 := hid hb1; clear hb1))
 go_ret2
 exact ⟨rfl,HB1.out⟩
set_option maxHeartbeats 1000000 in
theorem com_u32 (op : Int) (q : Int) (hq : q = op - 102) (h0 : 103 ≤ op) (h1 : op < 106) (a b : Nat) (r : Int) (r2 : Int) (HC : Ans 38 #[.int .i64 32,.int .i64 q,.int .u64 a] (.tuple #[.int .u64 r,.int .i64 r2])) : Ans 36 #[.int .i64 op,.int .u64 a,.int .u64 b] (.tuple #[.int .u64 r,.int .i64 r2]) := fun w => by
 have HCC := fun W => hid (HC W)
 have d0 : decide (op < 106) = true := by simp; omega
 obtain ⟨p,hp⟩ : ∃ p,p = 1 + op := ⟨_,rfl⟩
 have e1 : wrap64 (1 + op) = p := by unfold wrap64; omega
 have e2 : wrap64 (p - 103) = q := by unfold wrap64; omega
 clear HC h0 h1 hq hp
 go_enter Tryz.func36,Tryz.ntmps36
 go_wp2_with (first
  | (go_at_call 38; (with_reducible refine (HCC _).out.mono ?_); rintro e w1 ⟨rfl,hb1⟩; have HB1 := hid hb1; clear hb1))
 go_ret2
 exact ⟨rfl,HB1.out⟩
set_option maxHeartbeats 1000000 in
theorem com_b32 (op : Int) (q : Int) (hq : q = op - 105) (h0 : 106 ≤ op) (h1 : op < 121) (a b : Nat) (r : Int) (r2 : Int) (HC : Ans 68 #[.int .i64 32,.int .i64 q,.int .u64 a,.int .u64 b] (.tuple #[.int .u64 r,.int .i64 r2])) : Ans 36 #[.int .i64 op,.int .u64 a,.int .u64 b] (.tuple #[.int .u64 r,.int .i64 r2]) := fun w => by
 have HCC := fun W => hid (HC W)
 have d0 : decide (op < 106) = false := by simp; omega
 have d1 : decide (op < 121) = true := by simp; omega
 obtain ⟨p,hp⟩ : ∃ p,p = 1 + op := ⟨_,rfl⟩
 have e1 : wrap64 (1 + op) = p := by unfold wrap64; omega
 have e2 : wrap64 (p - 106) = q := by unfold wrap64; omega
 clear HC h0 h1 hq hp
 go_enter Tryz.func36,Tryz.ntmps36
 go_wp2_with (first
  | (go_at_call 68; (with_reducible refine (HCC _).out.mono ?_); rintro e w1 ⟨rfl,hb1⟩; have HB1 := hid hb1; clear hb1))
 go_ret2
 exact ⟨rfl,HB1.out⟩
set_option maxHeartbeats 1000000 in
theorem com_u64 (op : Int) (q : Int) (hq : q = op - 120) (h0 : 121 ≤ op) (h1 : op < 124) (a b : Nat) (r : Int) (r2 : Int) (HC : Ans 38 #[.int .i64 64,.int .i64 q,.int .u64 a] (.tuple #[.int .u64 r,.int .i64 r2])) : Ans 36 #[.int .i64 op,.int .u64 a,.int .u64 b] (.tuple #[.int .u64 r,.int .i64 r2]) := fun w => by
 have HCC := fun W => hid (HC W)
 have d0 : decide (op < 106) = false := by simp; omega
 have d1 : decide (op < 121) = false := by simp; omega
 have d2 : decide (op < 124) = true := by simp; omega
 obtain ⟨p,hp⟩ : ∃ p,p = 1 + op := ⟨_,rfl⟩
 have e1 : wrap64 (1 + op) = p := by unfold wrap64; omega
 have e2 : wrap64 (p - 121) = q := by unfold wrap64; omega
 clear HC h0 h1 hq hp
 go_enter Tryz.func36,Tryz.ntmps36
 go_wp2_with (first
  | (go_at_call 38; (with_reducible refine (HCC _).out.mono ?_); rintro e w1 ⟨rfl,hb1⟩; have HB1 := hid hb1; clear hb1))
 go_ret2
 exact ⟨rfl,HB1.out⟩
set_option maxHeartbeats 1000000 in
theorem com_b64 (op : Int) (q : Int) (hq : q = op - 123) (h0 : 124 ≤ op) (h1 : op < 139) (a b : Nat) (r : Int) (r2 : Int) (HC : Ans 68 #[.int .i64 64,.int .i64 q,.int .u64 a,.int .u64 b] (.tuple #[.int .u64 r,.int .i64 r2])) : Ans 36 #[.int .i64 op,.int .u64 a,.int .u64 b] (.tuple #[.int .u64 r,.int .i64 r2]) := fun w => by
 have HCC := fun W => hid (HC W)
 have d0 : decide (op < 106) = false := by simp; omega
 have d1 : decide (op < 121) = false := by simp; omega
 have d2 : decide (op < 124) = false := by simp; omega
 have d3 : decide (op < 139) = true := by simp; omega
 obtain ⟨p,hp⟩ : ∃ p,p = 1 + op := ⟨_,rfl⟩
 have e1 : wrap64 (1 + op) = p := by unfold wrap64; omega
 have e2 : wrap64 (p - 124) = q := by unfold wrap64; omega
 clear HC h0 h1 hq hp
 go_enter Tryz.func36,Tryz.ntmps36
 go_wp2_with (first
  | (go_at_call 68; (with_reducible refine (HCC _).out.mono ?_); rintro e w1 ⟨rfl,hb1⟩; have HB1 := hid hb1; clear hb1))
 go_ret2
 exact ⟨rfl,HB1.out⟩
set_option maxHeartbeats 1000000 in
theorem com_g32 (op : Int) (q : Int) (hq : q = op - 145) (h0 : 146 ≤ op) (h1 : op < 153) (a b : Nat) (r : Int) (r2 : Int) (HC : Ans 70 #[.int .i64 32,.int .i64 q,.int .u64 a,.int .u64 b] (.tuple #[.int .u64 r,.int .i64 r2])) : Ans 36 #[.int .i64 op,.int .u64 a,.int .u64 b] (.tuple #[.int .u64 r,.int .i64 r2]) := fun w => by
 have HCC := fun W => hid (HC W)
 have d0 : decide (op < 106) = false := by simp; omega
 have d1 : decide (op < 121) = false := by simp; omega
 have d2 : decide (op < 124) = false := by simp; omega
 have d3 : decide (op < 139) = false := by simp; omega
 have d4 : decide (op < 146) = false := by simp; omega
 have d5 : decide (op < 153) = true := by simp; omega
 obtain ⟨p,hp⟩ : ∃ p,p = 1 + op := ⟨_,rfl⟩
 have e1 : wrap64 (1 + op) = p := by unfold wrap64; omega
 have e2 : wrap64 (p - 146) = q := by unfold wrap64; omega
 clear HC h0 h1 hq hp
 go_enter Tryz.func36,Tryz.ntmps36
 go_wp2_with (first
  | (go_at_call 70; (with_reducible refine (HCC _).out.mono ?_); rintro e w1 ⟨rfl,hb1⟩; have HB1 := hid hb1; clear hb1))
 go_ret2
 exact ⟨rfl,HB1.out⟩
set_option maxHeartbeats 1000000 in
theorem com_g64 (op : Int) (q : Int) (hq : q = op - 159) (h0 : 160 ≤ op) (h1 : op < 167) (a b : Nat) (r : Int) (r2 : Int) (HC : Ans 70 #[.int .i64 64,.int .i64 q,.int .u64 a,.int .u64 b] (.tuple #[.int .u64 r,.int .i64 r2])) : Ans 36 #[.int .i64 op,.int .u64 a,.int .u64 b] (.tuple #[.int .u64 r,.int .i64 r2]) := fun w => by
 have HCC := fun W => hid (HC W)
 have d0 : decide (op < 106) = false := by simp; omega
 have d1 : decide (op < 121) = false := by simp; omega
 have d2 : decide (op < 124) = false := by simp; omega
 have d3 : decide (op < 139) = false := by simp; omega
 have d4 : decide (op < 146) = false := by simp; omega
 have d5 : decide (op < 153) = false := by simp; omega
 have d6 : decide (op < 160) = false := by simp; omega
 obtain ⟨p,hp⟩ : ∃ p,p = 1 + op := ⟨_,rfl⟩
 have e1 : wrap64 (1 + op) = p := by unfold wrap64; omega
 have e2 : wrap64 (p - 160) = q := by unfold wrap64; omega
 clear HC h0 h1 hq hp
 go_enter Tryz.func36,Tryz.ntmps36
 go_wp2_with (first
  | (go_at_call 70; (with_reducible refine (HCC _).out.mono ?_); rintro e w1 ⟨rfl,hb1⟩; have HB1 := hid hb1; clear hb1))
 go_ret2
 exact ⟨rfl,HB1.out⟩
set_option maxHeartbeats 1000000 in
theorem res_cmp (op : Int) (h0 : 69 ≤ op) (h1 : op < 103) (a b : Nat) (r : Bool) (r2 : Int) (HC : Ans 34 #[.int .i64 op,.int .u64 a,.int .u64 b] (.tuple #[.bool r,.int .i64 r2])) : Ans 22 #[.int .i64 op,.int .u64 a,.int .u64 b] (.tuple #[.int .u64 ((if r then 1 else 0 : Nat) : Int),.int .i64 r2]) := fun w => by
 have HCC := fun W => hid (HC W)
 have HBIT := fun W => hid (bit_says r W)
 generalize ((if r then 1 else 0 : Nat) : Int) = z at *
 have d0 : decide (op < 103) = true := by simp; omega
 clear HC h0 h1
 go_enter Tryz.func22,Tryz.ntmps22
 go_wp2_with (first
  | (go_at_call 34; (with_reducible refine (HCC _).out.mono ?_); rintro e w1 ⟨rfl,hb1⟩; have HB1 := hid hb1; clear hb1)
  | (go_at_call 35; refine (HBIT _).out.mono ?_; rintro e w2 ⟨rfl,hb2⟩; have HB2 := hid (HB1.out.trans (hb2.mono HB1.out.size)); clear hb2))
 go_ret2
 exact ⟨rfl,HB2.out⟩
set_option maxHeartbeats 1000000 in
theorem res_com (op : Int) (h0 : 103 ≤ op) (h1 : op < 167) (a b : Nat) (r : Int) (r2 : Int) (HC : Ans 36 #[.int .i64 op,.int .u64 a,.int .u64 b] (.tuple #[.int .u64 r,.int .i64 r2])) : Ans 22 #[.int .i64 op,.int .u64 a,.int .u64 b] (.tuple #[.int .u64 r,.int .i64 r2]) := fun w => by
 have HCC := fun W => hid (HC W)
 have d0 : decide (op < 103) = false := by simp; omega
 have d1 : decide (op < 167) = true := by simp; omega
 clear HC h0 h1
 go_enter Tryz.func22,Tryz.ntmps22
 go_wp2_with (first
  | (go_at_call 36; (with_reducible refine (HCC _).out.mono ?_); rintro e w1 ⟨rfl,hb1⟩; have HB1 := hid hb1; clear hb1))
 go_ret2
 exact ⟨rfl,HB1.out⟩
set_option maxHeartbeats 1000000 in
theorem res_comG (op : Int) (h0 : 103 ≤ op) (h1 : op < 167) (a b : Nat) (r : Int) (r2 : Int) (HC : AnsG 36 #[.int .i64 op,.int .u64 a,.int .u64 b] (.tuple #[.int .u64 r,.int .i64 r2])) : AnsG 22 #[.int .i64 op,.int .u64 a,.int .u64 b] (.tuple #[.int .u64 r,.int .i64 r2]) := fun w hg => by
 have HCC := fun W (h : GlobF W) => hid (HC W h)
 have HG := hid hg
 have d0 : decide (op < 103) = false := by simp; omega
 have d1 : decide (op < 167) = true := by simp; omega
 clear HC h0 h1 hg
 go_enter Tryz.func22,Tryz.ntmps22
 go_wp2_with (first
  | (go_at_call 36; (with_reducible refine (HCC _ HG.out).out.mono ?_); rintro e w1 ⟨rfl,hb1⟩; have HB1 := hid hb1; clear hb1))
 go_ret2
 exact ⟨rfl,HB1.out⟩
set_option maxHeartbeats 1000000 in
theorem res_con (op : Int) (h0 : 167 ≤ op) (h1 : op < 192) (a b : Nat) (r : Int) (r2 : Int) (HC : Ans 37 #[.int .i64 op,.int .u64 a] (.tuple #[.int .u64 r,.int .i64 r2])) : Ans 22 #[.int .i64 op,.int .u64 a,.int .u64 b] (.tuple #[.int .u64 r,.int .i64 r2]) := fun w => by
 have HCC := fun W => hid (HC W)
 have d0 : decide (op < 103) = false := by simp; omega
 have d1 : decide (op < 167) = false := by simp; omega
 have d2 : decide (op < 192) = true := by simp; omega
 clear HC h0 h1
 go_enter Tryz.func22,Tryz.ntmps22
 go_wp2_with (first
  | (go_at_call 37; (with_reducible refine (HCC _).out.mono ?_); rintro e w1 ⟨rfl,hb1⟩; have HB1 := hid hb1; clear hb1))
 go_ret2
 exact ⟨rfl,HB1.out⟩
set_option maxHeartbeats 1000000 in
theorem res_x32 (op : Int) (q : Int) (hq : q = op - 188) (h0 : 192 ≤ op) (h1 : op < 194) (a b : Nat) (r : Int) (r2 : Int) (HC : Ans 38 #[.int .i64 32,.int .i64 q,.int .u64 a] (.tuple #[.int .u64 r,.int .i64 r2])) : Ans 22 #[.int .i64 op,.int .u64 a,.int .u64 b] (.tuple #[.int .u64 r,.int .i64 r2]) := fun w => by
 have HCC := fun W => hid (HC W)
 have d0 : decide (op < 103) = false := by simp; omega
 have d1 : decide (op < 167) = false := by simp; omega
 have d2 : decide (op < 192) = false := by simp; omega
 have d3 : decide (op < 194) = true := by simp; omega
 obtain ⟨p,hp⟩ : ∃ p,p = 4 + op := ⟨_,rfl⟩
 have e1 : wrap64 (4 + op) = p := by unfold wrap64; omega
 have e2 : wrap64 (p - 192) = q := by unfold wrap64; omega
 clear HC h0 h1 hq hp
 go_enter Tryz.func22,Tryz.ntmps22
 go_wp2_with (first
  | (go_at_call 38; (with_reducible refine (HCC _).out.mono ?_); rintro e w1 ⟨rfl,hb1⟩; have HB1 := hid hb1; clear hb1))
 go_ret2
 exact ⟨rfl,HB1.out⟩
set_option maxHeartbeats 1000000 in
theorem res_x64 (op : Int) (q : Int) (hq : q = op - 190) (h0 : 194 ≤ op) (h1 : op < 197) (a b : Nat) (r : Int) (r2 : Int) (HC : Ans 38 #[.int .i64 64,.int .i64 q,.int .u64 a] (.tuple #[.int .u64 r,.int .i64 r2])) : Ans 22 #[.int .i64 op,.int .u64 a,.int .u64 b] (.tuple #[.int .u64 r,.int .i64 r2]) := fun w => by
 have HCC := fun W => hid (HC W)
 have d0 : decide (op < 103) = false := by simp; omega
 have d1 : decide (op < 167) = false := by simp; omega
 have d2 : decide (op < 192) = false := by simp; omega
 have d3 : decide (op < 194) = false := by simp; omega
 have d4 : decide (op ≤ 196) = true := by simp; omega
 obtain ⟨p,hp⟩ : ∃ p,p = 4 + op := ⟨_,rfl⟩
 have e1 : wrap64 (4 + op) = p := by unfold wrap64; omega
 have e2 : wrap64 (p - 194) = q := by unfold wrap64; omega
 clear HC h0 h1 hq hp
 go_enter Tryz.func22,Tryz.ntmps22
 go_wp2_with (first
  | (go_at_call 38; (with_reducible refine (HCC _).out.mono ?_); rintro e w1 ⟨rfl,hb1⟩; have HB1 := hid hb1; clear hb1))
 go_ret2
 exact ⟨rfl,HB1.out⟩
set_option maxHeartbeats 1000000 in
theorem res_s32 (op : Int) (q : Int) (hq : q = op - 64512) (h0 : 64512 ≤ op) (h1 : op < 64516) (a b : Nat) (r : Int) (r2 : Int) (HC : Ans 39 #[.int .i64 32,.int .i64 q,.bool true,.int .u64 a] (.tuple #[.int .u64 r,.int .i64 r2])) : Ans 22 #[.int .i64 op,.int .u64 a,.int .u64 b] (.tuple #[.int .u64 r,.int .i64 r2]) := fun w => by
 have HCC := fun W => hid (HC W)
 have d0 : decide (op < 103) = false := by simp; omega
 have d1 : decide (op < 167) = false := by simp; omega
 have d2 : decide (op < 192) = false := by simp; omega
 have d3 : decide (op < 194) = false := by simp; omega
 have d4 : decide (op ≤ 196) = false := by simp; omega
 have d5 : decide (op < 64516) = true := by simp; omega
 have e2 : wrap64 (op - 64512) = q := by unfold wrap64; omega
 clear HC h0 h1 hq
 go_enter Tryz.func22,Tryz.ntmps22
 go_wp2_with (first
  | (go_at_call 39; (with_reducible refine (HCC _).out.mono ?_); rintro e w1 ⟨rfl,hb1⟩; have HB1 := hid hb1; clear hb1))
 go_ret2
 exact ⟨rfl,HB1.out⟩
set_option maxHeartbeats 1000000 in
theorem res_s64 (op : Int) (q : Int) (hq : q = op - 64516) (h0 : 64516 ≤ op) (h1 : op < 64520) (a b : Nat) (r : Int) (r2 : Int) (HC : Ans 39 #[.int .i64 64,.int .i64 q,.bool true,.int .u64 a] (.tuple #[.int .u64 r,.int .i64 r2])) : Ans 22 #[.int .i64 op,.int .u64 a,.int .u64 b] (.tuple #[.int .u64 r,.int .i64 r2]) := fun w => by
 have HCC := fun W => hid (HC W)
 have d0 : decide (op < 103) = false := by simp; omega
 have d1 : decide (op < 167) = false := by simp; omega
 have d2 : decide (op < 192) = false := by simp; omega
 have d3 : decide (op < 194) = false := by simp; omega
 have d4 : decide (op ≤ 196) = false := by simp; omega
 have d5 : decide (op < 64516) = false := by simp; omega
 have e2 : wrap64 (op - 64516) = q := by unfold wrap64; omega
 clear HC h0 h1 hq
 go_enter Tryz.func22,Tryz.ntmps22
 go_wp2_with (first
  | (go_at_call 39; (with_reducible refine (HCC _).out.mono ?_); rintro e w1 ⟨rfl,hb1⟩; have HB1 := hid hb1; clear hb1))
 go_ret2
 exact ⟨rfl,HB1.out⟩
end Go.Proofs.YtbbmbhcbncenaaaGreatDoor.Sc
namespace Go.Proofs.YtbbmbhcbncenaaaGreatDoor
open Go.RowKit
theorem div_zero (n : Nat) (op : Int) (a : Nat) (w : World) :
  Calls Tryz.prog 125 #[.int .i64 n,.int .i64 op,.int .u64 a,.int .u64 0] w fun e w' => e = .returned (.tuple #[.int .u64 0,.int .i64 41]) ∧ w = w' := by
 go_enter Tryz.func125,Tryz.ntmps125
 go_wp2
 go_ret2
 exact ⟨rfl,rfl⟩
theorem wrap_nat {q : Nat} (h : q < 18446744073709551616) : IntKind.u64.wrap (q : Int) = (q : Int) := by
 rw [IntKind.wrap_u64]; omega
theorem div_u (n : Nat) (hn : Okn n) (a b : Nat) (ha : a < 2 ^ n) (hb : b ≠ 0) (w : World) :
  Calls Tryz.prog 125 #[.int .i64 n,.int .i64 5,.int .u64 a,.int .u64 b] w fun e w' => e = .returned (.tuple #[.int .u64 ((a / b : Nat) : Int),.int .i64 0]) ∧ w = w' := by
 obtain ⟨h1,h2,h3,h4⟩ := pow_lt64 hn
 have hd : a / b ≤ a := Nat.div_le_self _ _
 have HC := hid (cut_any n hn (a / b) (by omega) w)
 rw [Nat.mod_eq_of_lt (by omega)] at HC
 have hne : ((b : Int) == 0) = false := by simp; omega
 have hb0 : 0 < (b : Int) := by omega
 obtain ⟨q,hq⟩ : ∃ q : Nat,q = a / b := ⟨_,rfl⟩
 have hqq : (a : Int) / (b : Int) = (q : Int) := by rw [hq]; simp
 have hqw := wrap_nat (show q < 18446744073709551616 by omega)
 rw [← hq] at HC ⊢
 clear h1 h2 h3 h4 ha hd hq
 go_enter Tryz.func125,Tryz.ntmps125
 go_wp2_with (go_at_call 76; refine HC.out.mono ?_; rintro e w' ⟨rfl,rfl⟩)
 go_ret2
 exact ⟨rfl,rfl⟩
theorem rem_u (n : Nat) (hn : Okn n) (a b : Nat) (ha : a < 2 ^ n) (hb : b ≠ 0) (w : World) :
  Calls Tryz.prog 125 #[.int .i64 n,.int .i64 7,.int .u64 a,.int .u64 b] w fun e w' => e = .returned (.tuple #[.int .u64 ((a % b : Nat) : Int),.int .i64 0]) ∧ w = w' := by
 obtain ⟨h1,h2,h3,h4⟩ := pow_lt64 hn
 have hd : a % b ≤ a := Nat.mod_le _ _
 have HC := hid (cut_any n hn (a % b) (by omega) w)
 rw [Nat.mod_eq_of_lt (show a % b < 2 ^ n by omega)] at HC
 have hne : ((b : Int) == 0) = false := by simp; omega
 have hb0 : 0 < (b : Int) := by omega
 obtain ⟨q,hq⟩ : ∃ q : Nat,q = a % b := ⟨_,rfl⟩
 have hqq : (a : Int) % (b : Int) = (q : Int) := by rw [hq]; simp
 rw [← hq] at HC ⊢
 clear h1 h2 h3 h4 ha hd hq
 go_enter Tryz.func125,Tryz.ntmps125
 go_wp2_with (go_at_call 76; refine HC.out.mono ?_; rintro e w' ⟨rfl,rfl⟩)
 go_ret2
 exact ⟨rfl,rfl⟩
theorem natAbs_pos_of {n b : Nat} (hb : b ≠ 0) (hlt : b < 2 ^ n) : 0 < (sg n b).natAbs := by
 rw [sg_abs hlt]; split <;> omega
theorem size_le {n x : Nat} (hn : Okn n) (hx : x < 2 ^ n) : (sg n x).natAbs ≤ 2 ^ (n - 1) := by
 obtain ⟨h1,h2,h3,h4⟩ := pow_lt64 hn
 rw [sg_abs hx]; split <;> omega
set_option maxHeartbeats 800000 in
theorem rem_s (n : Nat) (hn : Okn n) (a b : Nat) (ha : a < 2 ^ n) (hb : b ≠ 0) (hbn : b < 2 ^ n) (w : World) :
  Calls Tryz.prog 125 #[.int .i64 n,.int .i64 6,.int .u64 a,.int .u64 b] w fun e w' => e = .returned (.tuple #[.int .u64 ((toN n ((sg n a).tmod (sg n b)) : Nat) : Int),.int .i64 0]) ∧ w = w' := by
 obtain ⟨h1,h2,h3,h4⟩ := pow_lt64 hn
 have hne : ((b : Int) == 0) = false := by simp; omega
 have HA := hid (size_any n hn a ha w)
 have HB := hid (size_any n hn b hbn w)
 have hA := size_le hn ha
 have hB0 := natAbs_pos_of hb hbn
 obtain ⟨A,hAe⟩ : ∃ A : Nat,A = (sg n a).natAbs := ⟨_,rfl⟩
 obtain ⟨B,hBe⟩ : ∃ B : Nat,B = (sg n b).natAbs := ⟨_,rfl⟩
 obtain ⟨q,hq⟩ : ∃ q : Nat,q = A % B := ⟨_,rfl⟩
 have hqA : q ≤ A := by rw [hq]; exact Nat.mod_le _ _
 have hqq : (A : Int) % (B : Int) = (q : Int) := by rw [hq]; simp
 by_cases hs : sg n a < 0
 ·have HN := hid (negative_any n hn a (by omega) true (by rw [testBit_top hn ha]; simp [(sg_neg ha).1 hs]) w)
  have hv : toN n ((sg n a).tmod (sg n b)) = (18446744073709551616 - q) % 18446744073709551616 % 2 ^ n := by
   rw [tmod_negs hs,← hAe,← hBe,← hq,toN_neg hn q (by omega)]
  have hw : IntKind.u64.wrap (-(q : Int)) = (((18446744073709551616 - q) % 18446744073709551616 : Nat) : Int) := by
   rw [IntKind.wrap_u64]; omega
  have HC := hid (cut_any n hn ((18446744073709551616 - q) % 18446744073709551616) (by omega) w)
  rw [hv]
  obtain ⟨r,hr⟩ : ∃ r : Nat,r = (18446744073709551616 - q) % 18446744073709551616 := ⟨_,rfl⟩
  rw [← hr] at hw HC ⊢
  rw [← hAe] at HA hA
  rw [← hBe] at HB hB0
  have hb0 : 0 < (B : Int) := by omega
  clear h1 h2 h3 h4 ha hbn hb hA hB0 hAe hBe hq hqA hs hv hr hn
  go_enter Tryz.func125,Tryz.ntmps125
  go_wp2_with (first
   | (go_at_call 140; refine HN.out.mono ?_; rintro e w' ⟨rfl,rfl⟩)
   | (go_at_call 79; ((with_reducible refine HA.out.mono ?_); rintro e w' ⟨rfl,rfl⟩))
   | (go_at_call 79; ((with_reducible refine HB.out.mono ?_); rintro e w' ⟨rfl,rfl⟩))
   | (go_at_call 76; refine HC.out.mono ?_; rintro e w' ⟨rfl,rfl⟩))
  go_ret2
  exact ⟨rfl,rfl⟩
 ·have HN := hid (negative_any n hn a (by omega) false (by rw [testBit_top hn ha]; have := (not_congr (sg_neg ha)).1 hs; simp [this]) w)
  have hv : toN n ((sg n a).tmod (sg n b)) = q % 2 ^ n := by
   rw [tmod_pos hs,← hAe,← hBe,← hq,toN_nat]
  have HC := hid (cut_any n hn q (by omega) w)
  rw [hv]
  rw [← hAe] at HA hA
  rw [← hBe] at HB hB0
  have hb0 : 0 < (B : Int) := by omega
  clear h1 h2 h3 h4 ha hbn hb hA hB0 hAe hBe hq hqA hs hv hn
  go_enter Tryz.func125,Tryz.ntmps125
  go_wp2_with (first
   | (go_at_call 140; refine HN.out.mono ?_; rintro e w' ⟨rfl,rfl⟩)
   | (go_at_call 79; ((with_reducible refine HA.out.mono ?_); rintro e w' ⟨rfl,rfl⟩))
   | (go_at_call 79; ((with_reducible refine HB.out.mono ?_); rintro e w' ⟨rfl,rfl⟩))
   | (go_at_call 76; refine HC.out.mono ?_; rintro e w' ⟨rfl,rfl⟩))
  go_ret2
  exact ⟨rfl,rfl⟩
theorem div_over (n : Nat) (hn : Okn n) (w : World) :
  Calls Tryz.prog 125 #[.int .i64 n,.int .i64 4,.int .u64 ((2 ^ (n - 1) : Nat) : Int),.int .u64 ((2 ^ n - 1 : Nat) : Int)] w fun e w' => e = .returned (.tuple #[.int .u64 0,.int .i64 42]) ∧ w = w' := by
 obtain ⟨h1,h2,h3,h4⟩ := pow_lt64 hn
 have HO := hid (ones_any n hn w)
 have HS := hid (sign_any n hn w)
 obtain ⟨S,hS⟩ : ∃ S : Nat,S = 2 ^ (n - 1) := ⟨_,rfl⟩
 obtain ⟨O,hO⟩ : ∃ O : Nat,O = 2 ^ n - 1 := ⟨_,rfl⟩
 have hne : ((O : Int) == 0) = false := by simp; omega
 rw [← hS,← hO]
 rw [← hS] at HS
 rw [← hO] at HO
 clear h1 h2 h3 h4 hS hO hn
 go_enter Tryz.func125,Tryz.ntmps125
 go_wp2_with (first
  | (go_at_call 119; refine HS.out.mono ?_; rintro e w' ⟨rfl,rfl⟩)
  | (go_at_call 139; refine HO.out.mono ?_; rintro e w' ⟨rfl,rfl⟩))
 go_ret2
 exact ⟨rfl,rfl⟩
set_option maxHeartbeats 1600000 in
theorem div_s (n : Nat) (hn : Okn n) (a b : Nat) (ha : a < 2 ^ n) (hb : b ≠ 0) (hbn : b < 2 ^ n) (hno : ¬ (a = 2 ^ (n - 1) ∧ b = 2 ^ n - 1)) (w : World) :
  Calls Tryz.prog 125 #[.int .i64 n,.int .i64 4,.int .u64 a,.int .u64 b] w fun e w' => e = .returned (.tuple #[.int .u64 ((toN n ((sg n a).tdiv (sg n b)) : Nat) : Int),.int .i64 0]) ∧ w = w' := by
 obtain ⟨h1,h2,h3,h4⟩ := pow_lt64 hn
 have hne : ((b : Int) == 0) = false := by simp; omega
 have HO := hid (ones_any n hn w)
 have HS := hid (sign_any n hn w)
 have HA := hid (size_any n hn a ha w)
 have HB := hid (size_any n hn b hbn w)
 have hA := size_le hn ha
 have hB0 := natAbs_pos_of hb hbn
 obtain ⟨S,hS⟩ : ∃ S : Nat,S = 2 ^ (n - 1) := ⟨_,rfl⟩
 obtain ⟨O,hO⟩ : ∃ O : Nat,O = 2 ^ n - 1 := ⟨_,rfl⟩
 obtain ⟨A,hAe⟩ : ∃ A : Nat,A = (sg n a).natAbs := ⟨_,rfl⟩
 obtain ⟨B,hBe⟩ : ∃ B : Nat,B = (sg n b).natAbs := ⟨_,rfl⟩
 obtain ⟨q,hq⟩ : ∃ q : Nat,q = A / B := ⟨_,rfl⟩
 have hqA : q ≤ A := by rw [hq]; exact Nat.div_le_self _ _
 have hqq : (A : Int) / (B : Int) = (q : Int) := by rw [hq]; simp
 have hqw := wrap_nat (show q < 18446744073709551616 by omega)
 have hw : IntKind.u64.wrap (-(q : Int)) = (((18446744073709551616 - q) % 18446744073709551616 : Nat) : Int) := by
  rw [IntKind.wrap_u64]; omega
 have HC1 := hid (cut_any n hn ((18446744073709551616 - q) % 18446744073709551616) (by omega) w)
 have HC2 := hid (cut_any n hn q (by omega) w)
 have hv1 : ¬ (sg n a < 0 ↔ sg n b < 0) → toN n ((sg n a).tdiv (sg n b)) = (18446744073709551616 - q) % 18446744073709551616 % 2 ^ n := fun hs => by
  rw [tdiv_other hs,← hAe,← hBe,← hq,toN_neg hn q (by omega)]
 have hv2 : (sg n a < 0 ↔ sg n b < 0) → toN n ((sg n a).tdiv (sg n b)) = q % 2 ^ n := fun hs => by
  rw [tdiv_same hs,← hAe,← hBe,← hq,toN_nat]
 obtain ⟨r,hr⟩ : ∃ r : Nat,r = (18446744073709551616 - q) % 18446744073709551616 := ⟨_,rfl⟩
 have hNa := negative_any n hn a (by omega) _ (testBit_top hn ha) w
 have hNb := negative_any n hn b (by omega) _ (testBit_top hn hbn) w
 rw [sg_neg ha,sg_neg hbn] at hv1 hv2
 rw [← hS] at HS hNa hNb hv1 hv2 hno
 rw [← hO] at HO hno
 rw [← hr] at HC1 hw hv1
 rw [← hAe] at HA
 rw [← hBe] at HB hB0
 obtain ⟨V,hV⟩ : ∃ V : Nat,V = toN n ((sg n a).tdiv (sg n b)) := ⟨_,rfl⟩
 rw [← hV] at hv1 hv2 ⊢
 have hb0 : 0 < (B : Int) := by omega
 have HV1 := hid hv1
 have HV2 := hid hv2
 clear hv1 hv2 h1 h2 h3 h4 ha hbn hb hA hB0 hAe hBe hq hqA hr hn hS hO hV
 have hor : ((a : Int) == (S : Int)) = true ∧ ((b : Int) == (O : Int)) = false ∨ ((a : Int) == (S : Int)) = false := by
  by_cases hoa : a = S
  ·exact .inl ⟨by simp [hoa],(by (have : ¬ b = O := fun h => hno ⟨hoa,h⟩); simp; omega)⟩
  ·exact .inr (by simp; omega)
 clear hno
 by_cases hca : S ≤ a <;> by_cases hcb : S ≤ b
 all_goals
  simp only [hca,hcb,decide_true,decide_false] at hNa hNb
  have HNa := hid hNa
  have HNb := hid hNb
  clear hNa hNb
 ·rw [HV2.out (by simp [hca,hcb])]
  clear HV1 HV2 hca hcb
  rcases hor with ⟨ea,eb⟩ | ea
  all_goals
   go_enter Tryz.func125,Tryz.ntmps125
   go_wp2_with (first
    | (go_at_call 119; refine HS.out.mono ?_; rintro e w' ⟨rfl,rfl⟩)
    | (go_at_call 139; refine HO.out.mono ?_; rintro e w' ⟨rfl,rfl⟩)
    | (go_at_call 140; ((with_reducible refine HNa.out.mono ?_); rintro e w' ⟨rfl,rfl⟩))
    | (go_at_call 140; ((with_reducible refine HNb.out.mono ?_); rintro e w' ⟨rfl,rfl⟩))
    | (go_at_call 79; ((with_reducible refine HA.out.mono ?_); rintro e w' ⟨rfl,rfl⟩))
    | (go_at_call 79; ((with_reducible refine HB.out.mono ?_); rintro e w' ⟨rfl,rfl⟩))
    | (go_at_call 76; refine HC2.out.mono ?_; rintro e w' ⟨rfl,rfl⟩))
   go_ret2
   exact ⟨rfl,rfl⟩
 ·rw [HV1.out (by simp [hca,hcb])]
  clear HV1 HV2 hca hcb
  rcases hor with ⟨ea,eb⟩ | ea
  all_goals
   go_enter Tryz.func125,Tryz.ntmps125
   go_wp2_with (first
    | (go_at_call 119; refine HS.out.mono ?_; rintro e w' ⟨rfl,rfl⟩)
    | (go_at_call 139; refine HO.out.mono ?_; rintro e w' ⟨rfl,rfl⟩)
    | (go_at_call 140; ((with_reducible refine HNa.out.mono ?_); rintro e w' ⟨rfl,rfl⟩))
    | (go_at_call 140; ((with_reducible refine HNb.out.mono ?_); rintro e w' ⟨rfl,rfl⟩))
    | (go_at_call 79; ((with_reducible refine HA.out.mono ?_); rintro e w' ⟨rfl,rfl⟩))
    | (go_at_call 79; ((with_reducible refine HB.out.mono ?_); rintro e w' ⟨rfl,rfl⟩))
    | (go_at_call 76; refine HC1.out.mono ?_; rintro e w' ⟨rfl,rfl⟩))
   go_ret2
   exact ⟨rfl,rfl⟩
 ·rw [HV1.out (by simp [hca,hcb])]
  clear HV1 HV2 hca hcb
  rcases hor with ⟨ea,eb⟩ | ea
  all_goals
   go_enter Tryz.func125,Tryz.ntmps125
   go_wp2_with (first
    | (go_at_call 119; refine HS.out.mono ?_; rintro e w' ⟨rfl,rfl⟩)
    | (go_at_call 139; refine HO.out.mono ?_; rintro e w' ⟨rfl,rfl⟩)
    | (go_at_call 140; ((with_reducible refine HNa.out.mono ?_); rintro e w' ⟨rfl,rfl⟩))
    | (go_at_call 140; ((with_reducible refine HNb.out.mono ?_); rintro e w' ⟨rfl,rfl⟩))
    | (go_at_call 79; ((with_reducible refine HA.out.mono ?_); rintro e w' ⟨rfl,rfl⟩))
    | (go_at_call 79; ((with_reducible refine HB.out.mono ?_); rintro e w' ⟨rfl,rfl⟩))
    | (go_at_call 76; refine HC1.out.mono ?_; rintro e w' ⟨rfl,rfl⟩))
   go_ret2
   exact ⟨rfl,rfl⟩
 ·rw [HV2.out (by simp [hca,hcb])]
  clear HV1 HV2 hca hcb
  rcases hor with ⟨ea,eb⟩ | ea
  all_goals
   go_enter Tryz.func125,Tryz.ntmps125
   go_wp2_with (first
    | (go_at_call 119; refine HS.out.mono ?_; rintro e w' ⟨rfl,rfl⟩)
    | (go_at_call 139; refine HO.out.mono ?_; rintro e w' ⟨rfl,rfl⟩)
    | (go_at_call 140; ((with_reducible refine HNa.out.mono ?_); rintro e w' ⟨rfl,rfl⟩))
    | (go_at_call 140; ((with_reducible refine HNb.out.mono ?_); rintro e w' ⟨rfl,rfl⟩))
    | (go_at_call 79; ((with_reducible refine HA.out.mono ?_); rintro e w' ⟨rfl,rfl⟩))
    | (go_at_call 79; ((with_reducible refine HB.out.mono ?_); rintro e w' ⟨rfl,rfl⟩))
    | (go_at_call 76; refine HC2.out.mono ?_; rintro e w' ⟨rfl,rfl⟩))
   go_ret2
   exact ⟨rfl,rfl⟩
theorem divided_any (n : Nat) (hn : Okn n) (op : Nat) (h1 : 4 ≤ op) (h2 : op ≤ 7) (a b : Nat) (ha : a < 2 ^ n) (hbn : b < 2 ^ n) (w : World) :
  Calls Tryz.prog 125 #[.int .i64 n,.int .i64 op,.int .u64 a,.int .u64 b] w fun e w' => e = .returned (.tuple #[.int .u64 ((divR n op a b).1 : Nat),.int .i64 ((divR n op a b).2 : Nat)]) ∧ w = w' := by
 by_cases hb : b = 0
 ·subst hb
  exact div_zero n op a w
 ·have hop : op = 4 ∨ op = 5 ∨ op = 6 ∨ op = 7 := by omega
  rcases hop with rfl | rfl | rfl | rfl
  ·by_cases hov : a = 2 ^ (n - 1) ∧ b = 2 ^ n - 1
   ·rw [divR,if_neg hb,if_neg (by decide),if_neg (by decide),if_neg (by decide),if_pos hov]
    obtain ⟨rfl,rfl⟩ := hov
    exact div_over n hn w
   ·rw [divR,if_neg hb,if_neg (by decide),if_neg (by decide),if_neg (by decide),if_neg hov]
    exact div_s n hn a b ha hb hbn hov w
  ·rw [divR,if_neg hb,if_pos rfl]
   exact div_u n hn a b ha hb w
  ·rw [divR,if_neg hb,if_neg (by decide),if_neg (by decide),if_pos rfl]
   exact rem_s n hn a b ha hb hbn w
  ·rw [divR,if_neg hb,if_neg (by decide),if_pos rfl]
   exact rem_u n hn a b ha hb w
end Go.Proofs.YtbbmbhcbncenaaaGreatDoor
namespace Go.Proofs.YtbbmbhcbncenaaaGreatDoor
open Go.RowKit
def Cuts (n s : Nat) (w : World) (e : Ending) (w' : World) : Prop := ∃ v : Nat,e = .returned (.int .u64 (v : Int)) ∧ v < 18446744073709551616 ∧ v % 2 ^ n = s ∧ w = w'
theorem cuts_nat {n : Nat} {w : World} {s v : Nat} {z : Int} (hz : z = (v : Int)) (hv : v < 18446744073709551616) (h : v % 2 ^ n = s) : Cuts n s w (.returned (.int .u64 z)) w :=
 ⟨v,by rw [hz],hv,h,rfl⟩
theorem mod_mod64 {n : Nat} (hn : Okn n) (x : Nat) : x % 18446744073709551616 % 2 ^ n = x % 2 ^ n := by
 apply Nat.mod_mod_of_dvd
 rcases hn with rfl | rfl | rfl | rfl <;> decide
theorem wrap_toN {n : Nat} (hn : Okn n) (z : Int) : (z % 18446744073709551616).toNat % 2 ^ n = toN n z := by
 unfold toN
 rcases hn with rfl | rfl | rfl | rfl <;> simp <;> omega
theorem cuts_wrap {n : Nat} (hn : Okn n) {w : World} {s : Nat} {z : Int} (h : toN n z = s) : Cuts n s w (.returned (.int .u64 (IntKind.u64.wrap z))) w := by
 refine cuts_nat (v := (z % 18446744073709551616).toNat) (by rw [IntKind.wrap_u64]; omega) (by omega) ?_
 rw [wrap_toN hn,h]
theorem shl_u (n : Nat) (hn : Okn n) (a b : Nat) (w : World) :
  Calls Tryz.prog 126 #[.int .i64 n,.int .i64 11,.int .u64 a,.int .u64 b] w (Cuts n (shiftR n 11 a (b % n)) w) := by
 have hn8 := hn.le
 obtain ⟨k,hk⟩ : ∃ k : Nat,k = b % n := ⟨_,rfl⟩
 have hkn : k < n := by rw [hk]; exact Nat.mod_lt _ (by omega)
 have hkk : (b : Int) % (n : Int) = (k : Int) := by rw [hk]; simp
 have hnw := wrap_nat (show n < 18446744073709551616 by omega)
 have hn0 : 0 < (n : Int) := by omega
 have hk64 : k ≤ 63 := by omega
 rw [← hk]
 have HN := hid hn
 clear hk hn
 go_enter Tryz.func126,Tryz.ntmps126
 go_wp2
 go_ret
 exact cuts_wrap HN.out (by
  rw [shiftR,if_pos rfl,← toN_nat]
  simp)
theorem sar_u (n : Nat) (hn : Okn n) (a b : Nat) (ha : a < 2 ^ n) (w : World) :
  Calls Tryz.prog 126 #[.int .i64 n,.int .i64 12,.int .u64 a,.int .u64 b] w (Cuts n (shiftR n 12 a (b % n)) w) := by
 obtain ⟨h1,h2,h3,h4⟩ := pow_lt64 hn
 have hn8 := hn.le
 obtain ⟨k,hk⟩ : ∃ k : Nat,k = b % n := ⟨_,rfl⟩
 have hkn : k < n := by rw [hk]; exact Nat.mod_lt _ (by omega)
 have hkk : (b : Int) % (n : Int) = (k : Int) := by rw [hk]; simp
 have hnw := wrap_nat (show n < 18446744073709551616 by omega)
 have hn0 : 0 < (n : Int) := by omega
 have hk64 : k ≤ 63 := by omega
 have HG := hid (Signed_ok n hn a (by omega) w)
 rw [← hk]
 rw [Nat.mod_eq_of_lt ha] at HG
 have HN := hid hn
 clear h1 h2 h3 h4 hk hn ha
 go_enter Tryz.func126,Tryz.ntmps126
 go_wp2_with (go_at_call 71; refine HG.out.mono ?_; rintro e w' ⟨rfl,rfl⟩)
 go_ret
 exact cuts_wrap HN.out (by
  rw [shiftR,if_neg (by decide),if_pos rfl]
  simp)
theorem div_pow_cast (a k : Nat) : (a : Int) / 2 ^ k = ((a / 2 ^ k : Nat) : Int) := by simp
theorem shr_u (n : Nat) (hn : Okn n) (a b : Nat) (ha : a < 2 ^ n) (w : World) :
  Calls Tryz.prog 126 #[.int .i64 n,.int .i64 13,.int .u64 a,.int .u64 b] w (Cuts n (shiftR n 13 a (b % n)) w) := by
 obtain ⟨h1,h2,h3,h4⟩ := pow_lt64 hn
 have hn8 := hn.le
 obtain ⟨k,hk⟩ : ∃ k : Nat,k = b % n := ⟨_,rfl⟩
 have hkn : k < n := by rw [hk]; exact Nat.mod_lt _ (by omega)
 have hkk : (b : Int) % (n : Int) = (k : Int) := by rw [hk]; simp
 have hnw := wrap_nat (show n < 18446744073709551616 by omega)
 have hn0 : 0 < (n : Int) := by omega
 have hk64 : k ≤ 63 := by omega
 have hd : a / 2 ^ k ≤ a := Nat.div_le_self _ _
 rw [← hk]
 have HD := hid (show a / 2 ^ k < 18446744073709551616 ∧ a / 2 ^ k < 2 ^ n from ⟨by omega,by omega⟩)
 clear h1 h2 h3 h4 hk hn ha hd
 go_enter Tryz.func126,Tryz.ntmps126
 go_wp2
 go_ret
 exact cuts_nat (div_pow_cast a k) HD.out.1 (by
  rw [shiftR,if_neg (by decide),if_neg (by decide),if_pos rfl,Nat.mod_eq_of_lt HD.out.2])
theorem or_wraps {n : Nat} (hn : Okn n) (a m j : Nat) (ha : a < 18446744073709551616) : ∃ v : Nat,bits .or .u64 (IntKind.u64.wrap ((a : Int) * 2 ^ m)) ((a : Int) / 2 ^ j) = (v : Int) ∧ v < 18446744073709551616 ∧ v % 2 ^ n = ((a * 2 ^ m) ||| (a / 2 ^ j)) % 2 ^ n := by
 have e1 : IntKind.u64.wrap ((a : Int) * 2 ^ m) = ((a * 2 ^ m % 18446744073709551616 : Nat) : Int) := by
  rw [IntKind.wrap_u64]; simp
 have hd : a / 2 ^ j ≤ a := Nat.div_le_self _ _
 refine ⟨(a * 2 ^ m % 18446744073709551616) ||| (a / 2 ^ j),?_,?_,?_⟩
 ·rw [e1,div_pow_cast,bits_or_u64_nat _ _ (Nat.mod_lt _ (by decide)) (by omega)]
 ·exact Nat.or_lt_two_pow (n := 64) (Nat.mod_lt _ (by decide)) (by omega)
 ·rw [Nat.or_mod_two_pow,mod_mod64 hn,← Nat.or_mod_two_pow]
theorem rotl_u (n : Nat) (hn : Okn n) (a b : Nat) (ha : a < 2 ^ n) (w : World) :
  Calls Tryz.prog 126 #[.int .i64 n,.int .i64 14,.int .u64 a,.int .u64 b] w (Cuts n (shiftR n 14 a (b % n)) w) := by
 obtain ⟨h1,h2,h3,h4⟩ := pow_lt64 hn
 have hn8 := hn.le
 obtain ⟨k,hk⟩ : ∃ k : Nat,k = b % n := ⟨_,rfl⟩
 have hkn : k < n := by rw [hk]; exact Nat.mod_lt _ (by omega)
 have hkk : (b : Int) % (n : Int) = (k : Int) := by rw [hk]; simp
 have hnw := wrap_nat (show n < 18446744073709551616 by omega)
 have hn0 : 0 < (n : Int) := by omega
 have hk64 : k ≤ 63 := by omega
 rw [← hk]
 have HV := hid (or_wraps hn a k (n - k) (by omega))
 clear h1 h2 h3 h4 hk hn ha
 go_enter Tryz.func126,Tryz.ntmps126
 go_wp2
 go_ret
 obtain ⟨v,e,hv,hc⟩ := HV.out
 exact cuts_nat e hv (by
  rw [shiftR,if_neg (by decide),if_neg (by decide),if_neg (by decide),if_pos rfl,hc])
theorem rotr_u (n : Nat) (hn : Okn n) (a b : Nat) (ha : a < 2 ^ n) (w : World) :
  Calls Tryz.prog 126 #[.int .i64 n,.int .i64 15,.int .u64 a,.int .u64 b] w (Cuts n (shiftR n 15 a (b % n)) w) := by
 obtain ⟨h1,h2,h3,h4⟩ := pow_lt64 hn
 have hn8 := hn.le
 obtain ⟨k,hk⟩ : ∃ k : Nat,k = b % n := ⟨_,rfl⟩
 have hkn : k < n := by rw [hk]; exact Nat.mod_lt _ (by omega)
 have hkk : (b : Int) % (n : Int) = (k : Int) := by rw [hk]; simp
 have hnw := wrap_nat (show n < 18446744073709551616 by omega)
 have hn0 : 0 < (n : Int) := by omega
 have hk64 : k ≤ 63 := by omega
 rw [← hk]
 have HV := hid (or_wraps hn a (n - k) (n - (n - k)) (by omega))
 have HK := hid (show n - (n - k) = k by omega)
 clear h1 h2 h3 h4 hk hn ha
 go_enter Tryz.func126,Tryz.ntmps126
 go_wp2
 go_ret
 obtain ⟨v,e,hv,hc⟩ := HV.out
 exact cuts_nat e hv (by
  rw [shiftR,if_neg (by decide),if_neg (by decide),if_neg (by decide),if_neg (by decide),hc,HK.out])
theorem shifted_any (n : Nat) (hn : Okn n) (op : Nat) (h1 : 11 ≤ op) (h2 : op ≤ 15) (a b : Nat) (ha : a < 2 ^ n) (w : World) :
  Calls Tryz.prog 126 #[.int .i64 n,.int .i64 op,.int .u64 a,.int .u64 b] w (Cuts n (shiftR n op a (b % n)) w) := by
 have hop : op = 11 ∨ op = 12 ∨ op = 13 ∨ op = 14 ∨ op = 15 := by omega
 rcases hop with rfl | rfl | rfl | rfl | rfl
 ·exact shl_u n hn a b w
 ·exact sar_u n hn a b ha w
 ·exact shr_u n hn a b ha w
 ·exact rotl_u n hn a b ha w
 ·exact rotr_u n hn a b ha w
end Go.Proofs.YtbbmbhcbncenaaaGreatDoor
namespace Go.Proofs.YtbbmbhcbncenaaaGreatDoor
open Go
theorem bit_of_mod {n : Nat} (hn : Okn n) (x : Nat) : x.testBit (n - 1) = decide (2 ^ (n - 1) ≤ x % 2 ^ n) := by
 rw [← testBit_top hn (Nat.mod_lt _ (Nat.two_pow_pos n)),Nat.testBit_mod_two_pow]
 have := hn.le
 simp
 omega
theorem sat_bits {n a b s : Nat} (hn : Okn n) : ((a ^^^ s) &&& (b ^^^ s)).testBit (n - 1) = decide (¬ (2 ^ (n - 1) ≤ a % 2 ^ n ↔ 2 ^ (n - 1) ≤ s % 2 ^ n) ∧ ¬ (2 ^ (n - 1) ≤ b % 2 ^ n ↔ 2 ^ (n - 1) ≤ s % 2 ^ n)) := by
 rw [Nat.testBit_and,Nat.testBit_xor,Nat.testBit_xor,bit_of_mod hn,bit_of_mod hn,bit_of_mod hn]
 by_cases h1 : 2 ^ (n - 1) ≤ a % 2 ^ n <;> by_cases h2 : 2 ^ (n - 1) ≤ b % 2 ^ n <;> by_cases h3 : 2 ^ (n - 1) ≤ s % 2 ^ n <;> simp [h1,h2,h3]
theorem add_in {n a b : Nat} (hn : Okn n) (ha : a < 2 ^ n) (hb : b < 2 ^ n) (h : ¬ (¬ (2 ^ (n - 1) ≤ a % 2 ^ n ↔ 2 ^ (n - 1) ≤ (a + b) % 18446744073709551616 % 2 ^ n) ∧ ¬ (2 ^ (n - 1) ≤ b % 2 ^ n ↔ 2 ^ (n - 1) ≤ (a + b) % 18446744073709551616 % 2 ^ n))) :
  (a + b) % 18446744073709551616 % 2 ^ n = toN n (clampS n (sg n a + sg n b)) := by
 unfold toN clampS sg
 rcases hn with rfl | rfl | rfl | rfl <;> simp at ha hb h ⊢ <;> repeat' split <;> omega
theorem add_out {n a b : Nat} (hn : Okn n) (ha : a < 2 ^ n) (hb : b < 2 ^ n) (h : ¬ (2 ^ (n - 1) ≤ a % 2 ^ n ↔ 2 ^ (n - 1) ≤ (a + b) % 18446744073709551616 % 2 ^ n) ∧ ¬ (2 ^ (n - 1) ≤ b % 2 ^ n ↔ 2 ^ (n - 1) ≤ (a + b) % 18446744073709551616 % 2 ^ n)) :
  (if 2 ^ (n - 1) ≤ a then 2 ^ (n - 1) else 2 ^ (n - 1) - 1) = toN n (clampS n (sg n a + sg n b)) := by
 unfold toN clampS sg
 rcases hn with rfl | rfl | rfl | rfl <;> simp at ha hb h ⊢ <;> repeat' split <;> omega
theorem sub_in {n a b c : Nat} (hn : Okn n) (ha : a < 2 ^ n) (hb : b < 2 ^ n) (hc : c = 18446744073709551615 - b) (h : ¬ (¬ (2 ^ (n - 1) ≤ a % 2 ^ n ↔ 2 ^ (n - 1) ≤ (a + c + 1) % 18446744073709551616 % 2 ^ n) ∧ ¬ (2 ^ (n - 1) ≤ c % 2 ^ n ↔ 2 ^ (n - 1) ≤ (a + c + 1) % 18446744073709551616 % 2 ^ n))) :
  (a + c + 1) % 18446744073709551616 % 2 ^ n = toN n (clampS n (sg n a - sg n b)) := by
 unfold toN clampS sg
 rcases hn with rfl | rfl | rfl | rfl <;> simp at ha hb h ⊢ <;> repeat' split <;> omega
theorem sub_out {n a b c : Nat} (hn : Okn n) (ha : a < 2 ^ n) (hb : b < 2 ^ n) (hc : c = 18446744073709551615 - b) (h : ¬ (2 ^ (n - 1) ≤ a % 2 ^ n ↔ 2 ^ (n - 1) ≤ (a + c + 1) % 18446744073709551616 % 2 ^ n) ∧ ¬ (2 ^ (n - 1) ≤ c % 2 ^ n ↔ 2 ^ (n - 1) ≤ (a + c + 1) % 18446744073709551616 % 2 ^ n)) :
  (if 2 ^ (n - 1) ≤ a then 2 ^ (n - 1) else 2 ^ (n - 1) - 1) = toN n (clampS n (sg n a - sg n b)) := by
 unfold toN clampS sg
 rcases hn with rfl | rfl | rfl | rfl <;> simp at ha hb h ⊢ <;> repeat' split <;> omega
theorem xor_max (b : Nat) (hb : b < 18446744073709551616) : bits .xor .u64 IntKind.u64.max (b : Int) = ((18446744073709551615 - b : Nat) : Int) := by
 have e : IntKind.u64.max = ((18446744073709551615 : Nat) : Int) := by decide
 rw [e,bits_xor_u64_nat _ _ (by decide) hb]
 congr 1
 apply Nat.eq_of_testBit_eq
 intro i
 have h : 18446744073709551615 - b = 2 ^ 64 - (b + 1) := by omega
 rw [h,Nat.testBit_two_pow_sub_succ (by omega),Nat.testBit_xor,show (18446744073709551615 : Nat) = 2 ^ 64 - 1 from rfl,Nat.testBit_two_pow_sub_one]
 by_cases hi : i < 64
 ·simp [hi]
 ·have : b.testBit i = false := Nat.testBit_lt_two_pow (Nat.lt_of_lt_of_le hb (Nat.pow_le_pow_right (n := 2) (i := 64) (by decide) (by omega)))
  simp [hi,this]
def turned (n a : Nat) : Nat := if 2 ^ (n - 1) ≤ a then a - 2 ^ (n - 1) else a + 2 ^ (n - 1)
theorem xor_top {n a : Nat} (hn : Okn n) (ha : a < 2 ^ n) : a ^^^ 2 ^ (n - 1) = turned n a := by
 obtain ⟨h1,h2,h3,h4⟩ := pow_lt64 hn
 unfold turned
 split
 ·rename_i h
  have e : a = 2 ^ (n - 1) ||| (a - 2 ^ (n - 1)) := by
   have := Nat.two_pow_add_eq_or_of_lt (i := n - 1) (b := a - 2 ^ (n - 1)) (by omega) 1
   rw [Nat.mul_one] at this
   rw [← this]; omega
  apply Nat.eq_of_testBit_eq
  intro i
  rw [Nat.testBit_xor,Nat.testBit_two_pow]
  conv => lhs; rw [e]
  rw [Nat.testBit_or,Nat.testBit_two_pow]
  by_cases hi : n - 1 = i
  ·subst hi
   have : (a - 2 ^ (n - 1)).testBit (n - 1) = false := Nat.testBit_lt_two_pow (by omega)
   simp [this]
  ·simp [hi]
 ·rename_i h
  have e : a + 2 ^ (n - 1) = 2 ^ (n - 1) ||| a := by
   have := Nat.two_pow_add_eq_or_of_lt (i := n - 1) (b := a) (by omega) 1
   rw [Nat.mul_one] at this
   rw [← this]; omega
  rw [e]
  apply Nat.eq_of_testBit_eq
  intro i
  rw [Nat.testBit_xor,Nat.testBit_two_pow,Nat.testBit_or,Nat.testBit_two_pow]
  by_cases hi : n - 1 = i
  ·subst hi
   have : a.testBit (n - 1) = false := Nat.testBit_lt_two_pow (by omega)
   simp [this]
  ·simp [hi]
theorem turned_lt {n a : Nat} (hn : Okn n) (ha : a < 2 ^ n) : turned n a < 2 ^ n := by
 obtain ⟨h1,h2,h3,h4⟩ := pow_lt64 hn
 unfold turned; split <;> omega
theorem turned_turned {n a : Nat} (hn : Okn n) (ha : a < 2 ^ n) : turned n (turned n a) = a := by
 obtain ⟨h1,h2,h3,h4⟩ := pow_lt64 hn
 unfold turned; split <;> split <;> omega
theorem turned_sg {n a : Nat} (hn : Okn n) : ((turned n a : Nat) : Int) = sg n a + (2 ^ (n - 1) : Nat) := by
 obtain ⟨h1,h2,h3,h4⟩ := pow_lt64 hn
 unfold turned sg; split <;> omega
theorem xor_turned {n a : Nat} (hn : Okn n) (ha : a < 2 ^ n) : bits .xor .u64 (a : Int) ((2 ^ (n - 1) : Nat) : Int) = ((turned n a : Nat) : Int) := by
 obtain ⟨h1,h2,h3,h4⟩ := pow_lt64 hn
 rw [bits_xor_u64_nat _ _ (by omega) h1,xor_top hn ha]
theorem xor_zero (a : Nat) (ha : a < 18446744073709551616) : bits .xor .u64 (a : Int) 0 = (a : Int) := by
 have := bits_xor_u64_nat a 0 ha (by decide)
 rw [Nat.xor_zero] at this
 exact this
theorem xor_and_or : ∀ (k a b : Nat),a < 2 ^ k → b < 2 ^ k → (a ||| b) = (a &&& b) + (a ^^^ b) ∧ a + b = 2 * (a &&& b) + (a ^^^ b)
 | 0,a,b,ha,hb => by
  have h1 : a = 0 := by simpa using ha
  have h2 : b = 0 := by simpa using hb
  subst h1; subst h2; decide
 | k + 1,a,b,ha,hb => by
  have ih := xor_and_or k (a / 2) (b / 2) (by rw [Nat.pow_succ] at ha; omega) (by rw [Nat.pow_succ] at hb; omega)
  have e1 := @Nat.or_div_two_pow a b 1
  have e2 := @Nat.and_div_two_pow a b 1
  have e3 := @Nat.xor_div_two_pow a b 1
  have f1 := @Nat.or_mod_two_pow a b 1
  have f2 := @Nat.and_mod_two_pow a b 1
  have f3 := @Nat.xor_mod_two_pow a b 1
  simp only [Nat.pow_one] at e1 e2 e3 f1 f2 f3
  rw [← e1,← e2,← e3] at ih
  have hA : a % 2 = 0 ∨ a % 2 = 1 := by omega
  have hB : b % 2 = 0 ∨ b % 2 = 1 := by omega
  rcases hA with hA | hA <;> rcases hB with hB | hB <;> rw [hA,hB] at f1 f2 f3
  ·have g1 : (a ||| b) % 2 = 0 := f1
   have g2 : (a &&& b) % 2 = 0 := f2
   have g3 : (a ^^^ b) % 2 = 0 := f3
   omega
  ·have g1 : (a ||| b) % 2 = 1 := f1
   have g2 : (a &&& b) % 2 = 0 := f2
   have g3 : (a ^^^ b) % 2 = 1 := f3
   omega
  ·have g1 : (a ||| b) % 2 = 1 := f1
   have g2 : (a &&& b) % 2 = 0 := f2
   have g3 : (a ^^^ b) % 2 = 1 := f3
   omega
  ·have g1 : (a ||| b) % 2 = 1 := f1
   have g2 : (a &&& b) % 2 = 1 := f2
   have g3 : (a ^^^ b) % 2 = 0 := f3
   omega
end Go.Proofs.YtbbmbhcbncenaaaGreatDoor
namespace Go.Proofs.YtbbmbhcbncenaaaGreatDoor
open Go.RowKit
theorem owned_at {w : World} {base : Nat} {e : TypeId} {v : Value} {n : Nat} {xs : List Value} (h : w.ownsRow base e 1 v n xs) (hn : 1 ≤ n) : ∃ g cap,v = .slice (some ⟨g,0,none⟩) n cap := by
 rcases h.2 with ⟨_,h⟩ | ⟨g,cap,_,h,_⟩
 ·omega
 ·exact ⟨g,cap,h⟩
end Go.Proofs.YtbbmbhcbncenaaaGreatDoor
namespace Go.Proofs.YtbbmbhcbncenaaaGreatDoor.Sc
open Go.RowKit
theorem cell_far {W : World} {c o g k : Nat} {v : Value} (h : c ≠ g) : (W.setCell ⟨c,o,none⟩ v).cell? ⟨g,k,none⟩ = W.cell? ⟨g,k,none⟩ := by
 unfold World.cell? World.setCell
 simp [Array.getElem?_modify,h]
theorem Num_says (op : Int) (hN : (69 ≤ op ∧ op ≤ 196) ∨ (64512 ≤ op ∧ op ≤ 64519)) (w : World) : Calls Tryz.prog 6 #[.int .i64 op] w fun e w' => e = .returned (.bool true) ∧ w = w' := by
 have d0 : decide (op < 64768) = true := by simp; omega
 have d1 : decide (69 ≤ op) = true := by simp; omega
 rcases hN with h | h
 ·have d2 : decide (op ≤ 196) = true := by simp; omega
  clear h
  go_enter Tryz.func6,Tryz.ntmps6
  go_wp2
  go_ret
  exact ⟨rfl,rfl⟩
 ·have d2 : decide (op ≤ 196) = false := by simp; omega
  have d3 : decide (64512 ≤ op) = true := by simp; omega
  have d4 : decide (op ≤ 64519) = true := by simp; omega
  clear h
  go_enter Tryz.func6,Tryz.ntmps6
  go_wp2
  go_ret
  exact ⟨rfl,rfl⟩
theorem hasType_says (t lo hi : Int) (nl : Bool) (w : World) : Calls Tryz.prog 20 #[.agg #[.int .i64 t,.int .u64 lo,.int .u64 hi,.bool nl],.int .i64 t] w fun e w' => e = .returned (.bool true) ∧ Below w.heap.size w w' := by
 have d : (t == t) = true := by simp
 go_enter Tryz.func20,Tryz.ntmps20
 go_wp2
 go_ret
 exact ⟨rfl,(Below.refl _ _).alloc (Nat.le_refl _) _⟩
theorem fn48 : ∀ args w,(callFunc 20 args).run Tryz.prog w = .ok (.enter 20 args) w := fun _ _ => rfl
set_option maxHeartbeats 4000000 in
theorem EF_says (l : List Av) (hl1 : 1 ≤ l.length) (hl : l.length ≤ 10) (va : Value) (g2 c2 : Nat) (w : World) (ha : AR w va l) (hg2 : g2 < w.heap.size) (ht : ∀ j a,l[j]? = some a → w.cell? ⟨g2,j,none⟩ = some (.int .i64 a.1)) :
  Calls Tryz.prog 19 #[va,.slice (some ⟨g2,0,none⟩) l.length c2,.func (.func 20) #[] #[]] w fun e w' => e = .returned (.bool true) ∧ Below w.heap.size w w' := by
 obtain ⟨ga,ca,rfl,hga,hca,hata⟩ := ha
 have HA := hid hata
 have HTC := hid ht
 have eg := fn48
 obtain ⟨n,hn⟩ : ∃ n,n = l.length := ⟨_,rfl⟩
 rw [← hn] at hca hl1 hl ⊢
 have HN := hid hn
 have hnn : ((n : Int) != (n : Int)) = false := by simp
 clear hata hn ht
 go_enter Tryz.func19,Tryz.ntmps19
 go_wp2
 go_loopw [17] (fun vi wr => ∃ i : Nat,i ≤ n ∧ vi = .int .i64 i ∧ Hid (Below w.heap.size w wr)) (fun vi _ => n - (intOf vi).toNat)
 case atStart => exact ⟨0,Nat.zero_le _,rfl,Below.refl _ _⟩
 case round =>
  obtain ⟨i,hin,rfl,HB⟩ := hrel
  by_cases hlt : i < n
  ·obtain ⟨⟨t,lo,hi,nl⟩,hja⟩ : ∃ a,l[i]? = some a := ⟨l[i]'(by rw [← HN.out]; exact hlt),by simp [← HN.out,hlt]⟩
   obtain ⟨h0,h1,h2,h3⟩ := HA.out i _ hja
   have ht0 := HTC.out i _ hja
   have HT := fun W => hid (hasType_says t (lo : Nat) (hi : Nat) nl W)
   have e0 := (HB.out.cell (p := ⟨ga,i * 4,none⟩) hga).trans h0
   have e1 := (HB.out.cell (p := ⟨ga,i * 4 + 1,none⟩) hga).trans h1
   have e2 := (HB.out.cell (p := ⟨ga,i * 4 + 2,none⟩) hga).trans h2
   have e3 := (HB.out.cell (p := ⟨ga,i * 4 + 3,none⟩) hga).trans h3
   have u0 := fun o => ((HB.out.alloc HB.out.size o).cell (p := ⟨g2,i,none⟩) hg2).trans ht0
   have hgr : ga < wr.heap.size := Nat.lt_of_lt_of_le hga HB.out.size
   have hg2r : g2 < wr.heap.size := Nat.lt_of_lt_of_le hg2 HB.out.size
   simp only [] at e0 e1 e2 e3 u0
   clear h0 h1 h2 h3 ht0 hja
   go_wp2_with (go_at_call 20; (with_reducible refine (HT _).out.mono ?_); rintro e w3 ⟨rfl,hb3⟩; have HB3 := hid ((HB.out.alloc HB.out.size (.cells #[.int .i64 t,.int .u64 (lo : Nat),.int .u64 (hi : Nat),.bool nl] 33)).trans (hb3.mono (by have := HB.out.size; rw [size_al]; omega))); clear hb3)
   go_roundw
   case rel => exact ⟨i + 1,by omega,by go_num,HB3.out⟩
   case measure => simp [intOf]; omega
  ·obtain rfl : i = n := by omega
   go_wp2
   go_ret
   exact ⟨rfl,HB.out⟩
end Go.Proofs.YtbbmbhcbncenaaaGreatDoor.Sc
