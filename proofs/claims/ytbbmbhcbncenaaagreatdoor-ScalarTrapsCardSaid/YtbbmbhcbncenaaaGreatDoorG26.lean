/-
  FCTrunc, FCAll: merged, what the law does not reach left out (each text says what it holds where it lies in wip). No condition.
-/
import Derived.Test.YtbbmbhcbncenaaaGreatDoorG25
import Derived.Test.YtbbmbhcbncenaaaGreatDoorG14
import Derived.Test.YtbbmbhcbncenaaaGreatDoorG01
set_option linter.unusedSimpArgs false
set_option linter.unusedVariables false
set_option maxRecDepth 100000
namespace Go.Proofs.YtbbmbhcbncenaaaGreatDoor.Fl
open Go.RowKit
def Ib (n : Int) (s : Bool) (g : Nat) (W : World) : Prop := W.cell? ⟨g,0,none⟩ = some (.int .i64 n) ∧ W.cell? ⟨g,1,none⟩ = some (.bool s)
theorem Ib.call {n : Int} {s : Bool} {g : Nat} {W W' : World} (h : Ib n s g W) (hb : Below W.heap.size W W') : Ib n s g W' := ⟨bkeep h.1 hb,bkeep h.2 hb⟩
theorem Ib.new (n : Int) (s : Bool) (W : World) : Ib n s W.heap.size (W.alloc (.cells #[.int .i64 n,.bool s] 123)) := ⟨by simp,by simp⟩
def Si (n : Int) (s : Bool) (w : World) (g : Nat) (W : World) : Prop := Ib n s g W ∧ w.heap.size ≤ g ∧ Below w.heap.size w W
theorem Si.call {n : Int} {s : Bool} {w W W' : World} {g : Nat} (h : Si n s w g W) (hb : Below W.heap.size W W') : Si n s w g W' := ⟨h.1.call hb,h.2.1,bnext h.2.2 hb⟩
theorem Si.new (n : Int) (s : Bool) {w w1 : World} (hb : Below w.heap.size w w1) : Si n s w w1.heap.size (w1.alloc (.cells #[.int .i64 n,.bool s] 123)) := ⟨Ib.new n s w1,hb.size,balloc hb _⟩
abbrev Say (f : Nat) (args : Array Value) (W : World) (v : Value) : Prop := Calls Tryz.prog f args W fun e w' => e = .returned v ∧ Below W.heap.size W w'
theorem Trunc_32_nan (F : Int) (s sat : Bool) (a : Nat) (HK : ∀ W,Hid (Say 142 #[.int .i64 F,.int .u64 a] W (.int .i64 4))) (w : World) :
  Say 81 #[.int .i64 F,.int .i64 32,.bool s,.bool sat,.int .u64 a] w (.tuple #[.int .u64 0,.int .i64 (if sat then 0 else 43)]) := by
 have HI := fun W => hid (integerOf_32 s W)
 have HN := fun W => hid (iknown_32 s W)
 have hB : Below w.heap.size w w := Below.refl _ _
 cases sat
 ·go_enter Tryz.func81,Tryz.ntmps81
  go_wp2_with (first
   | (go_at_call 141; ((with_reducible refine (HI _).out.mono ?_); rintro e w1 ⟨rfl,hb⟩; replace hB := bnext hB hb; clear hb))
   | (go_at_call 142; ((with_reducible refine (HK _).out.mono ?_); rintro e w2 ⟨rfl,hb⟩; replace hB := bnext hB hb; clear hb))
   | (go_at_call 143; ((with_reducible refine (HN _).out.mono ?_); rintro e w3 ⟨rfl,hb⟩; have hS := (Si.new 32 s hB).call hb; obtain ⟨c0,c1⟩ := id hS.1; clear hb hB)))
  exact bodyPost_ret (v := .tuple #[.int .u64 0,.int .i64 43]) (by simp [results,Tryz.results81,go_sem]) rfl ⟨rfl,hS.2.2⟩
 ·go_enter Tryz.func81,Tryz.ntmps81
  go_wp2_with (first
   | (go_at_call 141; ((with_reducible refine (HI _).out.mono ?_); rintro e w1 ⟨rfl,hb⟩; replace hB := bnext hB hb; clear hb))
   | (go_at_call 142; ((with_reducible refine (HK _).out.mono ?_); rintro e w2 ⟨rfl,hb⟩; replace hB := bnext hB hb; clear hb))
   | (go_at_call 143; ((with_reducible refine (HN _).out.mono ?_); rintro e w3 ⟨rfl,hb⟩; have hS := (Si.new 32 s hB).call hb; obtain ⟨c0,c1⟩ := id hS.1; clear hb hB)))
  exact bodyPost_ret (v := .tuple #[.int .u64 0,.int .i64 0]) (by simp [results,Tryz.results81,go_sem]) rfl ⟨rfl,hS.2.2⟩
theorem Trunc_32_in (F : Int) (s sat neg : Bool) (a k m q y : Nat) (e : Int) (hk0 : ((k : Int) == 0) = false) (hk4 : ((k : Int) == 4) = false) (HK : ∀ W,Hid (Say 142 #[.int .i64 F,.int .u64 a] W (.int .i64 (k : Int))))
  (HP : ∀ W,Hid (Say 144 #[.int .i64 F,.int .u64 a] W (.tuple #[.bool neg,.int .u64 (m : Int),.int .i64 e])))
  (HW : ∀ W,Hid (Say 145 #[.int .u64 (m : Int),.int .i64 e] W (.tuple #[.int .u64 (q : Int),.bool true])))
  (hq : q ≤ bnd 32 s neg) (hy : IntKind.u64.wrap (-(q : Int)) = (y : Int)) (hq64 : q < 18446744073709551616) (hy64 : y < 18446744073709551616) (w : World) :
  Say 81 #[.int .i64 F,.int .i64 32,.bool s,.bool sat,.int .u64 a] w (.tuple #[.int .u64 (((if neg then y else q) % 4294967296 : Nat) : Int),.int .i64 0]) := by
 have HI := fun W => hid (integerOf_32 s W)
 have HN := fun W => hid (iknown_32 s W)
 have hB : Below w.heap.size w w := Below.refl _ _
 have HBD := fun W => hid (bound_32 s neg W)
 generalize bnd 32 s neg = b at *
 have hd1 : decide ((b : Int) < (q : Int)) = false := decide_eq_false (by omega)
 have hd2 : decide (b < q) = false := decide_eq_false (by omega)
 cases neg
 ·have HC := fun W => hid (icut_32 s q hq64 W)
  rw [if_neg (by decide)]
  obtain ⟨c,hc⟩ : ∃ c : Nat,c = q % 4294967296 := ⟨_,rfl⟩
  rw [← hc] at HC ⊢
  clear hc hq hq64 hy64 hy
  go_enter Tryz.func81,Tryz.ntmps81
  go_wp2_with (first
   | (go_at_call 141; ((with_reducible refine (HI _).out.mono ?_); rintro e w1 ⟨rfl,hb⟩; replace hB := bnext hB hb; clear hb))
   | (go_at_call 142; ((with_reducible refine (HK _).out.mono ?_); rintro e w2 ⟨rfl,hb⟩; replace hB := bnext hB hb; clear hb))
   | (go_at_call 143; ((with_reducible refine (HN _).out.mono ?_); rintro e w3 ⟨rfl,hb⟩; have hS := (Si.new 32 s hB).call hb; obtain ⟨c0,c1⟩ := id hS.1; clear hb hB))
   | (go_at_call 144; ((with_reducible refine (HP _).out.mono ?_); rintro e w4 ⟨rfl,hb⟩; replace hS := hS.call hb; clear c0 c1 hb; obtain ⟨c0,c1⟩ := id hS.1))
   | (go_at_call 145; ((with_reducible refine (HW _).out.mono ?_); rintro e w4 ⟨rfl,hb⟩; replace hS := hS.call hb; clear c0 c1 hb; obtain ⟨c0,c1⟩ := id hS.1))
   | (go_at_call 146; ((with_reducible refine (HBD _).out.mono ?_); rintro e w4 ⟨rfl,hb⟩; replace hS := hS.call hb; clear c0 c1 hb; obtain ⟨c0,c1⟩ := id hS.1))
   | (go_at_call 147; ((with_reducible refine (HC _).out.mono ?_); rintro e w4 ⟨rfl,hb⟩; replace hS := hS.call hb; clear c0 c1 hb; obtain ⟨c0,c1⟩ := id hS.1)))
  exact bodyPost_ret (v := .tuple #[.int .u64 (c : Int),.int .i64 0]) (by simp [results,Tryz.results81,go_sem]) rfl ⟨rfl,hS.2.2⟩
 ·have HC := fun W => hid (icut_32 s y hy64 W)
  rw [if_pos rfl]
  obtain ⟨c,hc⟩ : ∃ c : Nat,c = y % 4294967296 := ⟨_,rfl⟩
  rw [← hc] at HC ⊢
  clear hc hq hq64 hy64
  go_enter Tryz.func81,Tryz.ntmps81
  go_wp2_with (first
   | (go_at_call 141; ((with_reducible refine (HI _).out.mono ?_); rintro e w1 ⟨rfl,hb⟩; replace hB := bnext hB hb; clear hb))
   | (go_at_call 142; ((with_reducible refine (HK _).out.mono ?_); rintro e w2 ⟨rfl,hb⟩; replace hB := bnext hB hb; clear hb))
   | (go_at_call 143; ((with_reducible refine (HN _).out.mono ?_); rintro e w3 ⟨rfl,hb⟩; have hS := (Si.new 32 s hB).call hb; obtain ⟨c0,c1⟩ := id hS.1; clear hb hB))
   | (go_at_call 144; ((with_reducible refine (HP _).out.mono ?_); rintro e w4 ⟨rfl,hb⟩; replace hS := hS.call hb; clear c0 c1 hb; obtain ⟨c0,c1⟩ := id hS.1))
   | (go_at_call 145; ((with_reducible refine (HW _).out.mono ?_); rintro e w4 ⟨rfl,hb⟩; replace hS := hS.call hb; clear c0 c1 hb; obtain ⟨c0,c1⟩ := id hS.1))
   | (go_at_call 146; ((with_reducible refine (HBD _).out.mono ?_); rintro e w4 ⟨rfl,hb⟩; replace hS := hS.call hb; clear c0 c1 hb; obtain ⟨c0,c1⟩ := id hS.1))
   | (go_at_call 147; ((with_reducible refine (HC _).out.mono ?_); rintro e w4 ⟨rfl,hb⟩; replace hS := hS.call hb; clear c0 c1 hb; obtain ⟨c0,c1⟩ := id hS.1)))
  exact bodyPost_ret (v := .tuple #[.int .u64 (c : Int),.int .i64 0]) (by simp [results,Tryz.results81,go_sem]) rfl ⟨rfl,hS.2.2⟩
theorem Trunc_32_over (F : Int) (s neg f : Bool) (a k m q : Nat) (e : Int) (hk0 : ((k : Int) == 0) = false) (hk4 : ((k : Int) == 4) = false) (HK : ∀ W,Hid (Say 142 #[.int .i64 F,.int .u64 a] W (.int .i64 (k : Int))))
  (HP : ∀ W,Hid (Say 144 #[.int .i64 F,.int .u64 a] W (.tuple #[.bool neg,.int .u64 (m : Int),.int .i64 e])))
  (HW : ∀ W,Hid (Say 145 #[.int .u64 (m : Int),.int .i64 e] W (.tuple #[.int .u64 (q : Int),.bool f])))
  (hq : f = false ∨ bnd 32 s neg < q) (w : World) :
  Say 81 #[.int .i64 F,.int .i64 32,.bool s,.bool false,.int .u64 a] w (.tuple #[.int .u64 0,.int .i64 42]) := by
 have HI := fun W => hid (integerOf_32 s W)
 have HN := fun W => hid (iknown_32 s W)
 have hB : Below w.heap.size w w := Below.refl _ _
 have HBD := fun W => hid (bound_32 s neg W)
 generalize bnd 32 s neg = b at *
 cases f
 ·clear hq
  go_enter Tryz.func81,Tryz.ntmps81
  go_wp2_with (first
   | (go_at_call 141; ((with_reducible refine (HI _).out.mono ?_); rintro e w1 ⟨rfl,hb⟩; replace hB := bnext hB hb; clear hb))
   | (go_at_call 142; ((with_reducible refine (HK _).out.mono ?_); rintro e w2 ⟨rfl,hb⟩; replace hB := bnext hB hb; clear hb))
   | (go_at_call 143; ((with_reducible refine (HN _).out.mono ?_); rintro e w3 ⟨rfl,hb⟩; have hS := (Si.new 32 s hB).call hb; obtain ⟨c0,c1⟩ := id hS.1; clear hb hB))
   | (go_at_call 144; ((with_reducible refine (HP _).out.mono ?_); rintro e w4 ⟨rfl,hb⟩; replace hS := hS.call hb; clear c0 c1 hb; obtain ⟨c0,c1⟩ := id hS.1))
   | (go_at_call 145; ((with_reducible refine (HW _).out.mono ?_); rintro e w4 ⟨rfl,hb⟩; replace hS := hS.call hb; clear c0 c1 hb; obtain ⟨c0,c1⟩ := id hS.1))
   | (go_at_call 146; ((with_reducible refine (HBD _).out.mono ?_); rintro e w4 ⟨rfl,hb⟩; replace hS := hS.call hb; clear c0 c1 hb; obtain ⟨c0,c1⟩ := id hS.1)))
  exact bodyPost_ret (v := .tuple #[.int .u64 0,.int .i64 42]) (by simp [results,Tryz.results81,go_sem]) rfl ⟨rfl,hS.2.2⟩
 ·have hq2 : b < q := by rcases hq with h | h; cases h; exact h
  have hd1 : decide ((b : Int) < (q : Int)) = true := decide_eq_true (by omega)
  have hd2 : decide (b < q) = true := decide_eq_true hq2
  clear hq hq2
  go_enter Tryz.func81,Tryz.ntmps81
  go_wp2_with (first
   | (go_at_call 141; ((with_reducible refine (HI _).out.mono ?_); rintro e w1 ⟨rfl,hb⟩; replace hB := bnext hB hb; clear hb))
   | (go_at_call 142; ((with_reducible refine (HK _).out.mono ?_); rintro e w2 ⟨rfl,hb⟩; replace hB := bnext hB hb; clear hb))
   | (go_at_call 143; ((with_reducible refine (HN _).out.mono ?_); rintro e w3 ⟨rfl,hb⟩; have hS := (Si.new 32 s hB).call hb; obtain ⟨c0,c1⟩ := id hS.1; clear hb hB))
   | (go_at_call 144; ((with_reducible refine (HP _).out.mono ?_); rintro e w4 ⟨rfl,hb⟩; replace hS := hS.call hb; clear c0 c1 hb; obtain ⟨c0,c1⟩ := id hS.1))
   | (go_at_call 145; ((with_reducible refine (HW _).out.mono ?_); rintro e w4 ⟨rfl,hb⟩; replace hS := hS.call hb; clear c0 c1 hb; obtain ⟨c0,c1⟩ := id hS.1))
   | (go_at_call 146; ((with_reducible refine (HBD _).out.mono ?_); rintro e w4 ⟨rfl,hb⟩; replace hS := hS.call hb; clear c0 c1 hb; obtain ⟨c0,c1⟩ := id hS.1)))
  exact bodyPost_ret (v := .tuple #[.int .u64 0,.int .i64 42]) (by simp [results,Tryz.results81,go_sem]) rfl ⟨rfl,hS.2.2⟩
theorem Trunc_32_held (F : Int) (s neg f : Bool) (a k m q y : Nat) (e : Int) (hk0 : ((k : Int) == 0) = false) (hk4 : ((k : Int) == 4) = false) (HK : ∀ W,Hid (Say 142 #[.int .i64 F,.int .u64 a] W (.int .i64 (k : Int))))
  (HP : ∀ W,Hid (Say 144 #[.int .i64 F,.int .u64 a] W (.tuple #[.bool neg,.int .u64 (m : Int),.int .i64 e])))
  (HW : ∀ W,Hid (Say 145 #[.int .u64 (m : Int),.int .i64 e] W (.tuple #[.int .u64 (q : Int),.bool f])))
  (hq : f = false ∨ bnd 32 s neg < q) (hy : IntKind.u64.wrap (-((bnd 32 s neg : Nat) : Int)) = (y : Int)) (hb64 : bnd 32 s neg < 18446744073709551616) (hy64 : y < 18446744073709551616) (w : World) :
  Say 81 #[.int .i64 F,.int .i64 32,.bool s,.bool true,.int .u64 a] w (.tuple #[.int .u64 (((if neg then y else bnd 32 s neg) % 4294967296 : Nat) : Int),.int .i64 0]) := by
 have HI := fun W => hid (integerOf_32 s W)
 have HN := fun W => hid (iknown_32 s W)
 have hB : Below w.heap.size w w := Below.refl _ _
 have HBD := fun W => hid (bound_32 s neg W)
 generalize bnd 32 s neg = b at *
 obtain ⟨x,hx,hx64⟩ : ∃ x : Nat,x = (if neg then y else b) ∧ x < 18446744073709551616 := ⟨_,rfl,by cases neg <;> simp <;> assumption⟩
 have HC := fun W => hid (icut_32 s x hx64 W)
 rw [← hx]
 obtain ⟨c,hc⟩ : ∃ c : Nat,c = x % 4294967296 := ⟨_,rfl⟩
 rw [← hc] at HC ⊢
 clear hc hx64 hb64 hy64
 cases f
 ·clear hq
  cases neg
  ·rw [if_neg (by decide)] at hx
   subst hx
   clear hy
   go_enter Tryz.func81,Tryz.ntmps81
   go_wp2_with (first
    | (go_at_call 141; ((with_reducible refine (HI _).out.mono ?_); rintro e w1 ⟨rfl,hb⟩; replace hB := bnext hB hb; clear hb))
    | (go_at_call 142; ((with_reducible refine (HK _).out.mono ?_); rintro e w2 ⟨rfl,hb⟩; replace hB := bnext hB hb; clear hb))
    | (go_at_call 143; ((with_reducible refine (HN _).out.mono ?_); rintro e w3 ⟨rfl,hb⟩; have hS := (Si.new 32 s hB).call hb; obtain ⟨c0,c1⟩ := id hS.1; clear hb hB))
    | (go_at_call 144; ((with_reducible refine (HP _).out.mono ?_); rintro e w4 ⟨rfl,hb⟩; replace hS := hS.call hb; clear c0 c1 hb; obtain ⟨c0,c1⟩ := id hS.1))
    | (go_at_call 145; ((with_reducible refine (HW _).out.mono ?_); rintro e w4 ⟨rfl,hb⟩; replace hS := hS.call hb; clear c0 c1 hb; obtain ⟨c0,c1⟩ := id hS.1))
    | (go_at_call 146; ((with_reducible refine (HBD _).out.mono ?_); rintro e w4 ⟨rfl,hb⟩; replace hS := hS.call hb; clear c0 c1 hb; obtain ⟨c0,c1⟩ := id hS.1))
    | (go_at_call 147; ((with_reducible refine (HC _).out.mono ?_); rintro e w4 ⟨rfl,hb⟩; replace hS := hS.call hb; clear c0 c1 hb; obtain ⟨c0,c1⟩ := id hS.1)))
   exact bodyPost_ret (v := .tuple #[.int .u64 (c : Int),.int .i64 0]) (by simp [results,Tryz.results81,go_sem]) rfl ⟨rfl,hS.2.2⟩
  ·rw [if_pos rfl] at hx
   subst hx
   go_enter Tryz.func81,Tryz.ntmps81
   go_wp2_with (first
    | (go_at_call 141; ((with_reducible refine (HI _).out.mono ?_); rintro e w1 ⟨rfl,hb⟩; replace hB := bnext hB hb; clear hb))
    | (go_at_call 142; ((with_reducible refine (HK _).out.mono ?_); rintro e w2 ⟨rfl,hb⟩; replace hB := bnext hB hb; clear hb))
    | (go_at_call 143; ((with_reducible refine (HN _).out.mono ?_); rintro e w3 ⟨rfl,hb⟩; have hS := (Si.new 32 s hB).call hb; obtain ⟨c0,c1⟩ := id hS.1; clear hb hB))
    | (go_at_call 144; ((with_reducible refine (HP _).out.mono ?_); rintro e w4 ⟨rfl,hb⟩; replace hS := hS.call hb; clear c0 c1 hb; obtain ⟨c0,c1⟩ := id hS.1))
    | (go_at_call 145; ((with_reducible refine (HW _).out.mono ?_); rintro e w4 ⟨rfl,hb⟩; replace hS := hS.call hb; clear c0 c1 hb; obtain ⟨c0,c1⟩ := id hS.1))
    | (go_at_call 146; ((with_reducible refine (HBD _).out.mono ?_); rintro e w4 ⟨rfl,hb⟩; replace hS := hS.call hb; clear c0 c1 hb; obtain ⟨c0,c1⟩ := id hS.1))
    | (go_at_call 147; ((with_reducible refine (HC _).out.mono ?_); rintro e w4 ⟨rfl,hb⟩; replace hS := hS.call hb; clear c0 c1 hb; obtain ⟨c0,c1⟩ := id hS.1)))
   exact bodyPost_ret (v := .tuple #[.int .u64 (c : Int),.int .i64 0]) (by simp [results,Tryz.results81,go_sem]) rfl ⟨rfl,hS.2.2⟩
 ·have hq2 : b < q := by rcases hq with h | h; cases h; exact h
  have hd1 : decide ((b : Int) < (q : Int)) = true := decide_eq_true (by omega)
  have hd2 : decide (b < q) = true := decide_eq_true hq2
  clear hq hq2
  cases neg
  ·rw [if_neg (by decide)] at hx
   subst hx
   clear hy
   go_enter Tryz.func81,Tryz.ntmps81
   go_wp2_with (first
    | (go_at_call 141; ((with_reducible refine (HI _).out.mono ?_); rintro e w1 ⟨rfl,hb⟩; replace hB := bnext hB hb; clear hb))
    | (go_at_call 142; ((with_reducible refine (HK _).out.mono ?_); rintro e w2 ⟨rfl,hb⟩; replace hB := bnext hB hb; clear hb))
    | (go_at_call 143; ((with_reducible refine (HN _).out.mono ?_); rintro e w3 ⟨rfl,hb⟩; have hS := (Si.new 32 s hB).call hb; obtain ⟨c0,c1⟩ := id hS.1; clear hb hB))
    | (go_at_call 144; ((with_reducible refine (HP _).out.mono ?_); rintro e w4 ⟨rfl,hb⟩; replace hS := hS.call hb; clear c0 c1 hb; obtain ⟨c0,c1⟩ := id hS.1))
    | (go_at_call 145; ((with_reducible refine (HW _).out.mono ?_); rintro e w4 ⟨rfl,hb⟩; replace hS := hS.call hb; clear c0 c1 hb; obtain ⟨c0,c1⟩ := id hS.1))
    | (go_at_call 146; ((with_reducible refine (HBD _).out.mono ?_); rintro e w4 ⟨rfl,hb⟩; replace hS := hS.call hb; clear c0 c1 hb; obtain ⟨c0,c1⟩ := id hS.1))
    | (go_at_call 147; ((with_reducible refine (HC _).out.mono ?_); rintro e w4 ⟨rfl,hb⟩; replace hS := hS.call hb; clear c0 c1 hb; obtain ⟨c0,c1⟩ := id hS.1)))
   exact bodyPost_ret (v := .tuple #[.int .u64 (c : Int),.int .i64 0]) (by simp [results,Tryz.results81,go_sem]) rfl ⟨rfl,hS.2.2⟩
  ·rw [if_pos rfl] at hx
   subst hx
   go_enter Tryz.func81,Tryz.ntmps81
   go_wp2_with (first
    | (go_at_call 141; ((with_reducible refine (HI _).out.mono ?_); rintro e w1 ⟨rfl,hb⟩; replace hB := bnext hB hb; clear hb))
    | (go_at_call 142; ((with_reducible refine (HK _).out.mono ?_); rintro e w2 ⟨rfl,hb⟩; replace hB := bnext hB hb; clear hb))
    | (go_at_call 143; ((with_reducible refine (HN _).out.mono ?_); rintro e w3 ⟨rfl,hb⟩; have hS := (Si.new 32 s hB).call hb; obtain ⟨c0,c1⟩ := id hS.1; clear hb hB))
    | (go_at_call 144; ((with_reducible refine (HP _).out.mono ?_); rintro e w4 ⟨rfl,hb⟩; replace hS := hS.call hb; clear c0 c1 hb; obtain ⟨c0,c1⟩ := id hS.1))
    | (go_at_call 145; ((with_reducible refine (HW _).out.mono ?_); rintro e w4 ⟨rfl,hb⟩; replace hS := hS.call hb; clear c0 c1 hb; obtain ⟨c0,c1⟩ := id hS.1))
    | (go_at_call 146; ((with_reducible refine (HBD _).out.mono ?_); rintro e w4 ⟨rfl,hb⟩; replace hS := hS.call hb; clear c0 c1 hb; obtain ⟨c0,c1⟩ := id hS.1))
    | (go_at_call 147; ((with_reducible refine (HC _).out.mono ?_); rintro e w4 ⟨rfl,hb⟩; replace hS := hS.call hb; clear c0 c1 hb; obtain ⟨c0,c1⟩ := id hS.1)))
   exact bodyPost_ret (v := .tuple #[.int .u64 (c : Int),.int .i64 0]) (by simp [results,Tryz.results81,go_sem]) rfl ⟨rfl,hS.2.2⟩
theorem Trunc_64_nan (F : Int) (s sat : Bool) (a : Nat) (HK : ∀ W,Hid (Say 142 #[.int .i64 F,.int .u64 a] W (.int .i64 4))) (w : World) :
  Say 81 #[.int .i64 F,.int .i64 64,.bool s,.bool sat,.int .u64 a] w (.tuple #[.int .u64 0,.int .i64 (if sat then 0 else 43)]) := by
 have HI := fun W => hid (integerOf_64 s W)
 have HN := fun W => hid (iknown_64 s W)
 have hB : Below w.heap.size w w := Below.refl _ _
 cases sat
 ·go_enter Tryz.func81,Tryz.ntmps81
  go_wp2_with (first
   | (go_at_call 141; ((with_reducible refine (HI _).out.mono ?_); rintro e w1 ⟨rfl,hb⟩; replace hB := bnext hB hb; clear hb))
   | (go_at_call 142; ((with_reducible refine (HK _).out.mono ?_); rintro e w2 ⟨rfl,hb⟩; replace hB := bnext hB hb; clear hb))
   | (go_at_call 143; ((with_reducible refine (HN _).out.mono ?_); rintro e w3 ⟨rfl,hb⟩; have hS := (Si.new 64 s hB).call hb; obtain ⟨c0,c1⟩ := id hS.1; clear hb hB)))
  exact bodyPost_ret (v := .tuple #[.int .u64 0,.int .i64 43]) (by simp [results,Tryz.results81,go_sem]) rfl ⟨rfl,hS.2.2⟩
 ·go_enter Tryz.func81,Tryz.ntmps81
  go_wp2_with (first
   | (go_at_call 141; ((with_reducible refine (HI _).out.mono ?_); rintro e w1 ⟨rfl,hb⟩; replace hB := bnext hB hb; clear hb))
   | (go_at_call 142; ((with_reducible refine (HK _).out.mono ?_); rintro e w2 ⟨rfl,hb⟩; replace hB := bnext hB hb; clear hb))
   | (go_at_call 143; ((with_reducible refine (HN _).out.mono ?_); rintro e w3 ⟨rfl,hb⟩; have hS := (Si.new 64 s hB).call hb; obtain ⟨c0,c1⟩ := id hS.1; clear hb hB)))
  exact bodyPost_ret (v := .tuple #[.int .u64 0,.int .i64 0]) (by simp [results,Tryz.results81,go_sem]) rfl ⟨rfl,hS.2.2⟩
theorem Trunc_64_in (F : Int) (s sat neg : Bool) (a k m q y : Nat) (e : Int) (hk0 : ((k : Int) == 0) = false) (hk4 : ((k : Int) == 4) = false) (HK : ∀ W,Hid (Say 142 #[.int .i64 F,.int .u64 a] W (.int .i64 (k : Int))))
  (HP : ∀ W,Hid (Say 144 #[.int .i64 F,.int .u64 a] W (.tuple #[.bool neg,.int .u64 (m : Int),.int .i64 e])))
  (HW : ∀ W,Hid (Say 145 #[.int .u64 (m : Int),.int .i64 e] W (.tuple #[.int .u64 (q : Int),.bool true])))
  (hq : q ≤ bnd 64 s neg) (hy : IntKind.u64.wrap (-(q : Int)) = (y : Int)) (hq64 : q < 18446744073709551616) (hy64 : y < 18446744073709551616) (w : World) :
  Say 81 #[.int .i64 F,.int .i64 64,.bool s,.bool sat,.int .u64 a] w (.tuple #[.int .u64 (((if neg then y else q) % 18446744073709551616 : Nat) : Int),.int .i64 0]) := by
 have HI := fun W => hid (integerOf_64 s W)
 have HN := fun W => hid (iknown_64 s W)
 have hB : Below w.heap.size w w := Below.refl _ _
 have HBD := fun W => hid (bound_64 s neg W)
 generalize bnd 64 s neg = b at *
 have hd1 : decide ((b : Int) < (q : Int)) = false := decide_eq_false (by omega)
 have hd2 : decide (b < q) = false := decide_eq_false (by omega)
 cases neg
 ·have HC := fun W => hid (icut_64 s q hq64 W)
  rw [if_neg (by decide)]
  obtain ⟨c,hc⟩ : ∃ c : Nat,c = q % 18446744073709551616 := ⟨_,rfl⟩
  rw [← hc] at HC ⊢
  clear hc hq hq64 hy64 hy
  go_enter Tryz.func81,Tryz.ntmps81
  go_wp2_with (first
   | (go_at_call 141; ((with_reducible refine (HI _).out.mono ?_); rintro e w1 ⟨rfl,hb⟩; replace hB := bnext hB hb; clear hb))
   | (go_at_call 142; ((with_reducible refine (HK _).out.mono ?_); rintro e w2 ⟨rfl,hb⟩; replace hB := bnext hB hb; clear hb))
   | (go_at_call 143; ((with_reducible refine (HN _).out.mono ?_); rintro e w3 ⟨rfl,hb⟩; have hS := (Si.new 64 s hB).call hb; obtain ⟨c0,c1⟩ := id hS.1; clear hb hB))
   | (go_at_call 144; ((with_reducible refine (HP _).out.mono ?_); rintro e w4 ⟨rfl,hb⟩; replace hS := hS.call hb; clear c0 c1 hb; obtain ⟨c0,c1⟩ := id hS.1))
   | (go_at_call 145; ((with_reducible refine (HW _).out.mono ?_); rintro e w4 ⟨rfl,hb⟩; replace hS := hS.call hb; clear c0 c1 hb; obtain ⟨c0,c1⟩ := id hS.1))
   | (go_at_call 146; ((with_reducible refine (HBD _).out.mono ?_); rintro e w4 ⟨rfl,hb⟩; replace hS := hS.call hb; clear c0 c1 hb; obtain ⟨c0,c1⟩ := id hS.1))
   | (go_at_call 147; ((with_reducible refine (HC _).out.mono ?_); rintro e w4 ⟨rfl,hb⟩; replace hS := hS.call hb; clear c0 c1 hb; obtain ⟨c0,c1⟩ := id hS.1)))
  exact bodyPost_ret (v := .tuple #[.int .u64 (c : Int),.int .i64 0]) (by simp [results,Tryz.results81,go_sem]) rfl ⟨rfl,hS.2.2⟩
 ·have HC := fun W => hid (icut_64 s y hy64 W)
  rw [if_pos rfl]
  obtain ⟨c,hc⟩ : ∃ c : Nat,c = y % 18446744073709551616 := ⟨_,rfl⟩
  rw [← hc] at HC ⊢
  clear hc hq hq64 hy64
  go_enter Tryz.func81,Tryz.ntmps81
  go_wp2_with (first
   | (go_at_call 141; ((with_reducible refine (HI _).out.mono ?_); rintro e w1 ⟨rfl,hb⟩; replace hB := bnext hB hb; clear hb))
   | (go_at_call 142; ((with_reducible refine (HK _).out.mono ?_); rintro e w2 ⟨rfl,hb⟩; replace hB := bnext hB hb; clear hb))
   | (go_at_call 143; ((with_reducible refine (HN _).out.mono ?_); rintro e w3 ⟨rfl,hb⟩; have hS := (Si.new 64 s hB).call hb; obtain ⟨c0,c1⟩ := id hS.1; clear hb hB))
   | (go_at_call 144; ((with_reducible refine (HP _).out.mono ?_); rintro e w4 ⟨rfl,hb⟩; replace hS := hS.call hb; clear c0 c1 hb; obtain ⟨c0,c1⟩ := id hS.1))
   | (go_at_call 145; ((with_reducible refine (HW _).out.mono ?_); rintro e w4 ⟨rfl,hb⟩; replace hS := hS.call hb; clear c0 c1 hb; obtain ⟨c0,c1⟩ := id hS.1))
   | (go_at_call 146; ((with_reducible refine (HBD _).out.mono ?_); rintro e w4 ⟨rfl,hb⟩; replace hS := hS.call hb; clear c0 c1 hb; obtain ⟨c0,c1⟩ := id hS.1))
   | (go_at_call 147; ((with_reducible refine (HC _).out.mono ?_); rintro e w4 ⟨rfl,hb⟩; replace hS := hS.call hb; clear c0 c1 hb; obtain ⟨c0,c1⟩ := id hS.1)))
  exact bodyPost_ret (v := .tuple #[.int .u64 (c : Int),.int .i64 0]) (by simp [results,Tryz.results81,go_sem]) rfl ⟨rfl,hS.2.2⟩
theorem Trunc_64_over (F : Int) (s neg f : Bool) (a k m q : Nat) (e : Int) (hk0 : ((k : Int) == 0) = false) (hk4 : ((k : Int) == 4) = false) (HK : ∀ W,Hid (Say 142 #[.int .i64 F,.int .u64 a] W (.int .i64 (k : Int))))
  (HP : ∀ W,Hid (Say 144 #[.int .i64 F,.int .u64 a] W (.tuple #[.bool neg,.int .u64 (m : Int),.int .i64 e])))
  (HW : ∀ W,Hid (Say 145 #[.int .u64 (m : Int),.int .i64 e] W (.tuple #[.int .u64 (q : Int),.bool f])))
  (hq : f = false ∨ bnd 64 s neg < q) (w : World) :
  Say 81 #[.int .i64 F,.int .i64 64,.bool s,.bool false,.int .u64 a] w (.tuple #[.int .u64 0,.int .i64 42]) := by
 have HI := fun W => hid (integerOf_64 s W)
 have HN := fun W => hid (iknown_64 s W)
 have hB : Below w.heap.size w w := Below.refl _ _
 have HBD := fun W => hid (bound_64 s neg W)
 generalize bnd 64 s neg = b at *
 cases f
 ·clear hq
  go_enter Tryz.func81,Tryz.ntmps81
  go_wp2_with (first
   | (go_at_call 141; ((with_reducible refine (HI _).out.mono ?_); rintro e w1 ⟨rfl,hb⟩; replace hB := bnext hB hb; clear hb))
   | (go_at_call 142; ((with_reducible refine (HK _).out.mono ?_); rintro e w2 ⟨rfl,hb⟩; replace hB := bnext hB hb; clear hb))
   | (go_at_call 143; ((with_reducible refine (HN _).out.mono ?_); rintro e w3 ⟨rfl,hb⟩; have hS := (Si.new 64 s hB).call hb; obtain ⟨c0,c1⟩ := id hS.1; clear hb hB))
   | (go_at_call 144; ((with_reducible refine (HP _).out.mono ?_); rintro e w4 ⟨rfl,hb⟩; replace hS := hS.call hb; clear c0 c1 hb; obtain ⟨c0,c1⟩ := id hS.1))
   | (go_at_call 145; ((with_reducible refine (HW _).out.mono ?_); rintro e w4 ⟨rfl,hb⟩; replace hS := hS.call hb; clear c0 c1 hb; obtain ⟨c0,c1⟩ := id hS.1))
   | (go_at_call 146; ((with_reducible refine (HBD _).out.mono ?_); rintro e w4 ⟨rfl,hb⟩; replace hS := hS.call hb; clear c0 c1 hb; obtain ⟨c0,c1⟩ := id hS.1)))
  exact bodyPost_ret (v := .tuple #[.int .u64 0,.int .i64 42]) (by simp [results,Tryz.results81,go_sem]) rfl ⟨rfl,hS.2.2⟩
 ·have hq2 : b < q := by rcases hq with h | h; cases h; exact h
  have hd1 : decide ((b : Int) < (q : Int)) = true := decide_eq_true (by omega)
  have hd2 : decide (b < q) = true := decide_eq_true hq2
  clear hq hq2
  go_enter Tryz.func81,Tryz.ntmps81
  go_wp2_with (first
   | (go_at_call 141; ((with_reducible refine (HI _).out.mono ?_); rintro e w1 ⟨rfl,hb⟩; replace hB := bnext hB hb; clear hb))
   | (go_at_call 142; ((with_reducible refine (HK _).out.mono ?_); rintro e w2 ⟨rfl,hb⟩; replace hB := bnext hB hb; clear hb))
   | (go_at_call 143; ((with_reducible refine (HN _).out.mono ?_); rintro e w3 ⟨rfl,hb⟩; have hS := (Si.new 64 s hB).call hb; obtain ⟨c0,c1⟩ := id hS.1; clear hb hB))
   | (go_at_call 144; ((with_reducible refine (HP _).out.mono ?_); rintro e w4 ⟨rfl,hb⟩; replace hS := hS.call hb; clear c0 c1 hb; obtain ⟨c0,c1⟩ := id hS.1))
   | (go_at_call 145; ((with_reducible refine (HW _).out.mono ?_); rintro e w4 ⟨rfl,hb⟩; replace hS := hS.call hb; clear c0 c1 hb; obtain ⟨c0,c1⟩ := id hS.1))
   | (go_at_call 146; ((with_reducible refine (HBD _).out.mono ?_); rintro e w4 ⟨rfl,hb⟩; replace hS := hS.call hb; clear c0 c1 hb; obtain ⟨c0,c1⟩ := id hS.1)))
  exact bodyPost_ret (v := .tuple #[.int .u64 0,.int .i64 42]) (by simp [results,Tryz.results81,go_sem]) rfl ⟨rfl,hS.2.2⟩
theorem Trunc_64_held (F : Int) (s neg f : Bool) (a k m q y : Nat) (e : Int) (hk0 : ((k : Int) == 0) = false) (hk4 : ((k : Int) == 4) = false) (HK : ∀ W,Hid (Say 142 #[.int .i64 F,.int .u64 a] W (.int .i64 (k : Int))))
  (HP : ∀ W,Hid (Say 144 #[.int .i64 F,.int .u64 a] W (.tuple #[.bool neg,.int .u64 (m : Int),.int .i64 e])))
  (HW : ∀ W,Hid (Say 145 #[.int .u64 (m : Int),.int .i64 e] W (.tuple #[.int .u64 (q : Int),.bool f])))
  (hq : f = false ∨ bnd 64 s neg < q) (hy : IntKind.u64.wrap (-((bnd 64 s neg : Nat) : Int)) = (y : Int)) (hb64 : bnd 64 s neg < 18446744073709551616) (hy64 : y < 18446744073709551616) (w : World) :
  Say 81 #[.int .i64 F,.int .i64 64,.bool s,.bool true,.int .u64 a] w (.tuple #[.int .u64 (((if neg then y else bnd 64 s neg) % 18446744073709551616 : Nat) : Int),.int .i64 0]) := by
 have HI := fun W => hid (integerOf_64 s W)
 have HN := fun W => hid (iknown_64 s W)
 have hB : Below w.heap.size w w := Below.refl _ _
 have HBD := fun W => hid (bound_64 s neg W)
 generalize bnd 64 s neg = b at *
 obtain ⟨x,hx,hx64⟩ : ∃ x : Nat,x = (if neg then y else b) ∧ x < 18446744073709551616 := ⟨_,rfl,by cases neg <;> simp <;> assumption⟩
 have HC := fun W => hid (icut_64 s x hx64 W)
 rw [← hx]
 obtain ⟨c,hc⟩ : ∃ c : Nat,c = x % 18446744073709551616 := ⟨_,rfl⟩
 rw [← hc] at HC ⊢
 clear hc hx64 hb64 hy64
 cases f
 ·clear hq
  cases neg
  ·rw [if_neg (by decide)] at hx
   subst hx
   clear hy
   go_enter Tryz.func81,Tryz.ntmps81
   go_wp2_with (first
    | (go_at_call 141; ((with_reducible refine (HI _).out.mono ?_); rintro e w1 ⟨rfl,hb⟩; replace hB := bnext hB hb; clear hb))
    | (go_at_call 142; ((with_reducible refine (HK _).out.mono ?_); rintro e w2 ⟨rfl,hb⟩; replace hB := bnext hB hb; clear hb))
    | (go_at_call 143; ((with_reducible refine (HN _).out.mono ?_); rintro e w3 ⟨rfl,hb⟩; have hS := (Si.new 64 s hB).call hb; obtain ⟨c0,c1⟩ := id hS.1; clear hb hB))
    | (go_at_call 144; ((with_reducible refine (HP _).out.mono ?_); rintro e w4 ⟨rfl,hb⟩; replace hS := hS.call hb; clear c0 c1 hb; obtain ⟨c0,c1⟩ := id hS.1))
    | (go_at_call 145; ((with_reducible refine (HW _).out.mono ?_); rintro e w4 ⟨rfl,hb⟩; replace hS := hS.call hb; clear c0 c1 hb; obtain ⟨c0,c1⟩ := id hS.1))
    | (go_at_call 146; ((with_reducible refine (HBD _).out.mono ?_); rintro e w4 ⟨rfl,hb⟩; replace hS := hS.call hb; clear c0 c1 hb; obtain ⟨c0,c1⟩ := id hS.1))
    | (go_at_call 147; ((with_reducible refine (HC _).out.mono ?_); rintro e w4 ⟨rfl,hb⟩; replace hS := hS.call hb; clear c0 c1 hb; obtain ⟨c0,c1⟩ := id hS.1)))
   exact bodyPost_ret (v := .tuple #[.int .u64 (c : Int),.int .i64 0]) (by simp [results,Tryz.results81,go_sem]) rfl ⟨rfl,hS.2.2⟩
  ·rw [if_pos rfl] at hx
   subst hx
   go_enter Tryz.func81,Tryz.ntmps81
   go_wp2_with (first
    | (go_at_call 141; ((with_reducible refine (HI _).out.mono ?_); rintro e w1 ⟨rfl,hb⟩; replace hB := bnext hB hb; clear hb))
    | (go_at_call 142; ((with_reducible refine (HK _).out.mono ?_); rintro e w2 ⟨rfl,hb⟩; replace hB := bnext hB hb; clear hb))
    | (go_at_call 143; ((with_reducible refine (HN _).out.mono ?_); rintro e w3 ⟨rfl,hb⟩; have hS := (Si.new 64 s hB).call hb; obtain ⟨c0,c1⟩ := id hS.1; clear hb hB))
    | (go_at_call 144; ((with_reducible refine (HP _).out.mono ?_); rintro e w4 ⟨rfl,hb⟩; replace hS := hS.call hb; clear c0 c1 hb; obtain ⟨c0,c1⟩ := id hS.1))
    | (go_at_call 145; ((with_reducible refine (HW _).out.mono ?_); rintro e w4 ⟨rfl,hb⟩; replace hS := hS.call hb; clear c0 c1 hb; obtain ⟨c0,c1⟩ := id hS.1))
    | (go_at_call 146; ((with_reducible refine (HBD _).out.mono ?_); rintro e w4 ⟨rfl,hb⟩; replace hS := hS.call hb; clear c0 c1 hb; obtain ⟨c0,c1⟩ := id hS.1))
    | (go_at_call 147; ((with_reducible refine (HC _).out.mono ?_); rintro e w4 ⟨rfl,hb⟩; replace hS := hS.call hb; clear c0 c1 hb; obtain ⟨c0,c1⟩ := id hS.1)))
   exact bodyPost_ret (v := .tuple #[.int .u64 (c : Int),.int .i64 0]) (by simp [results,Tryz.results81,go_sem]) rfl ⟨rfl,hS.2.2⟩
 ·have hq2 : b < q := by rcases hq with h | h; cases h; exact h
  have hd1 : decide ((b : Int) < (q : Int)) = true := decide_eq_true (by omega)
  have hd2 : decide (b < q) = true := decide_eq_true hq2
  clear hq hq2
  cases neg
  ·rw [if_neg (by decide)] at hx
   subst hx
   clear hy
   go_enter Tryz.func81,Tryz.ntmps81
   go_wp2_with (first
    | (go_at_call 141; ((with_reducible refine (HI _).out.mono ?_); rintro e w1 ⟨rfl,hb⟩; replace hB := bnext hB hb; clear hb))
    | (go_at_call 142; ((with_reducible refine (HK _).out.mono ?_); rintro e w2 ⟨rfl,hb⟩; replace hB := bnext hB hb; clear hb))
    | (go_at_call 143; ((with_reducible refine (HN _).out.mono ?_); rintro e w3 ⟨rfl,hb⟩; have hS := (Si.new 64 s hB).call hb; obtain ⟨c0,c1⟩ := id hS.1; clear hb hB))
    | (go_at_call 144; ((with_reducible refine (HP _).out.mono ?_); rintro e w4 ⟨rfl,hb⟩; replace hS := hS.call hb; clear c0 c1 hb; obtain ⟨c0,c1⟩ := id hS.1))
    | (go_at_call 145; ((with_reducible refine (HW _).out.mono ?_); rintro e w4 ⟨rfl,hb⟩; replace hS := hS.call hb; clear c0 c1 hb; obtain ⟨c0,c1⟩ := id hS.1))
    | (go_at_call 146; ((with_reducible refine (HBD _).out.mono ?_); rintro e w4 ⟨rfl,hb⟩; replace hS := hS.call hb; clear c0 c1 hb; obtain ⟨c0,c1⟩ := id hS.1))
    | (go_at_call 147; ((with_reducible refine (HC _).out.mono ?_); rintro e w4 ⟨rfl,hb⟩; replace hS := hS.call hb; clear c0 c1 hb; obtain ⟨c0,c1⟩ := id hS.1)))
   exact bodyPost_ret (v := .tuple #[.int .u64 (c : Int),.int .i64 0]) (by simp [results,Tryz.results81,go_sem]) rfl ⟨rfl,hS.2.2⟩
  ·rw [if_pos rfl] at hx
   subst hx
   go_enter Tryz.func81,Tryz.ntmps81
   go_wp2_with (first
    | (go_at_call 141; ((with_reducible refine (HI _).out.mono ?_); rintro e w1 ⟨rfl,hb⟩; replace hB := bnext hB hb; clear hb))
    | (go_at_call 142; ((with_reducible refine (HK _).out.mono ?_); rintro e w2 ⟨rfl,hb⟩; replace hB := bnext hB hb; clear hb))
    | (go_at_call 143; ((with_reducible refine (HN _).out.mono ?_); rintro e w3 ⟨rfl,hb⟩; have hS := (Si.new 64 s hB).call hb; obtain ⟨c0,c1⟩ := id hS.1; clear hb hB))
    | (go_at_call 144; ((with_reducible refine (HP _).out.mono ?_); rintro e w4 ⟨rfl,hb⟩; replace hS := hS.call hb; clear c0 c1 hb; obtain ⟨c0,c1⟩ := id hS.1))
    | (go_at_call 145; ((with_reducible refine (HW _).out.mono ?_); rintro e w4 ⟨rfl,hb⟩; replace hS := hS.call hb; clear c0 c1 hb; obtain ⟨c0,c1⟩ := id hS.1))
    | (go_at_call 146; ((with_reducible refine (HBD _).out.mono ?_); rintro e w4 ⟨rfl,hb⟩; replace hS := hS.call hb; clear c0 c1 hb; obtain ⟨c0,c1⟩ := id hS.1))
    | (go_at_call 147; ((with_reducible refine (HC _).out.mono ?_); rintro e w4 ⟨rfl,hb⟩; replace hS := hS.call hb; clear c0 c1 hb; obtain ⟨c0,c1⟩ := id hS.1)))
   exact bodyPost_ret (v := .tuple #[.int .u64 (c : Int),.int .i64 0]) (by simp [results,Tryz.results81,go_sem]) rfl ⟨rfl,hS.2.2⟩
end Go.Proofs.YtbbmbhcbncenaaaGreatDoor.Fl
namespace Go.Proofs.YtbbmbhcbncenaaaGreatDoor.Fl
open Go.RowKit
def mag (m : Nat) (e : Int) : Nat := if e < 0 then m / 2 ^ (-e).toNat else m * 2 ^ e.toNat
def truncM (n : Nat) (s sat neg : Bool) (M : Nat) : Nat × Int :=
 if M ≤ bnd n s neg then ((if neg then 2 ^ n - M else M) % 2 ^ n,0) else if sat then ((if neg then 2 ^ n - bnd n s neg else bnd n s neg) % 2 ^ n,0) else (0,42)
def wm (SB INF P c : Nat) : Nat := if c % SB = INF then 1 else pm P (c % SB)
def we (SB INF P : Nat) (low : Int) (c : Nat) : Int := if c % SB = INF then 1024 else pe P low (c % SB)
def truncW (SB INF P : Nat) (low : Int) (n : Nat) (s sat : Bool) (c : Nat) : Nat × Int :=
 if INF < c % SB then (0,if sat then 0 else 43) else truncM n s sat (decide (SB ≤ c)) (mag (wm SB INF P c) (we SB INF P low c))
theorem wrap_neg (q : Nat) (h : q < 18446744073709551616) : IntKind.u64.wrap (-(q : Int)) = (((18446744073709551616 - q) % 18446744073709551616 : Nat) : Int) := by
 rw [IntKind.wrap_u64]; omega
theorem not_fit (x d : Nat) (h : 18446744073709551616 ≤ x * d) (hd : 0 < d) : ¬ x * d % 18446744073709551616 / d = x := by
 intro hh
 have h1 := Nat.div_mul_le_self (x * d % 18446744073709551616) d
 rw [hh] at h1
 have h2 := Nat.mod_lt (x * d) (show 0 < 18446744073709551616 by decide)
 omega
theorem whole_any (m : Nat) (hm : m < 18446744073709551616) (e : Int) (h0 : -4000 ≤ e) (h1 : e ≤ 4000) :
  ∃ (q : Nat) (f : Bool),(∀ W,Hid (Say 145 #[.int .u64 (m : Int),.int .i64 e] W (.tuple #[.int .u64 (q : Int),.bool f]))) ∧ q < 18446744073709551616 ∧ (f = true → q = mag m e) ∧ (f = false → 18446744073709551616 ≤ mag m e) := by
 by_cases hn : e < 0
 ·obtain ⟨k,hk⟩ : ∃ k : Nat,e = -(k : Int) := ⟨(-e).toNat,by omega⟩
  subst hk
  refine ⟨m / 2 ^ k,true,fun W => hid (whole_neg m k hm (by omega) (by omega) W),Nat.lt_of_le_of_lt (Nat.div_le_self _ _) hm,fun _ => ?_,fun h => by cases h⟩
  unfold mag
  rw [if_pos hn,Int.neg_neg,Int.toNat_natCast]
 ·obtain ⟨k,hk⟩ : ∃ k : Nat,e = (k : Int) := ⟨e.toNat,by omega⟩
  subst hk
  have hM : mag m (k : Int) = m * 2 ^ k := by unfold mag; rw [if_neg hn,Int.toNat_natCast]
  refine ⟨m * 2 ^ k % 18446744073709551616,_,fun W => hid (whole_pos m k hm (by omega) W),Nat.mod_lt _ (by decide),fun h => ?_,fun h => ?_⟩
  ·rw [hM]
   have h2 := of_decide_eq_true h
   rcases Nat.lt_or_ge (m * 2 ^ k) 18446744073709551616 with h3 | h3
   ·exact Nat.mod_eq_of_lt h3
   ·exact absurd h2 (not_fit m (2 ^ k) h3 (Nat.two_pow_pos k))
  ·rw [hM]
   have h2 := of_decide_eq_false h
   rcases Nat.lt_or_ge (m * 2 ^ k) 18446744073709551616 with h3 | h3
   ·exact absurd (by rw [Nat.mod_eq_of_lt h3]; exact Nat.mul_div_cancel _ (Nat.two_pow_pos k)) h2
   ·exact h3
theorem kind_ne (INF s : Nat) : kindOf INF s ≠ 0 := by
 unfold kindOf; split
 ·decide
 ·split
  ·decide
  ·split <;> decide
theorem kind_4 {INF s : Nat} (h : INF < s) : kindOf INF s = 4 := by
 unfold kindOf; rw [if_neg (by omega),if_neg (by omega),if_neg (by omega)]
theorem kind_not4 {INF s : Nat} (h : s ≤ INF) : kindOf INF s ≠ 4 := by
 unfold kindOf; split
 ·decide
 ·split
  ·decide
  ·rw [if_pos (by omega)]; decide
theorem bnd_32 (s neg : Bool) : bnd 32 s neg < 4294967296 ∧ (neg = true → bnd 32 s neg ≤ 2147483648) := by
 cases s <;> cases neg <;> decide
theorem cutneg_32 (q : Nat) (h : q ≤ 2147483648) : (18446744073709551616 - q) % 18446744073709551616 % 4294967296 = (4294967296 - q) % 4294967296 := by omega
theorem Trunc_32_any (F : Int) (s sat neg : Bool) (a k m : Nat) (e : Int) (hm : m < 18446744073709551616) (h0 : -4000 ≤ e) (h1 : e ≤ 4000) (hk0 : ((k : Int) == 0) = false) (hk4 : ((k : Int) == 4) = false)
  (HK : ∀ W,Hid (Say 142 #[.int .i64 F,.int .u64 a] W (.int .i64 (k : Int))))
  (HP : ∀ W,Hid (Say 144 #[.int .i64 F,.int .u64 a] W (.tuple #[.bool neg,.int .u64 (m : Int),.int .i64 e]))) (w : World) :
  Say 81 #[.int .i64 F,.int .i64 32,.bool s,.bool sat,.int .u64 a] w (.tuple #[.int .u64 ((truncM 32 s sat neg (mag m e)).1 : Int),.int .i64 (truncM 32 s sat neg (mag m e)).2]) := by
 obtain ⟨q,f,HW,hq64,ht,hf⟩ := whole_any m hm e h0 h1
 obtain ⟨hb,hbn⟩ := bnd_32 s neg
 generalize mag m e = M at *
 by_cases hin : M ≤ bnd 32 s neg
 ·have hff : f = true := by
   cases f with
   | true => rfl
   | false => have := hf rfl; omega
  subst hff
  have hqM := ht rfl
  subst hqM
  have := Trunc_32_in F s sat neg a k m q _ e hk0 hk4 HK HP HW hin (wrap_neg q hq64) hq64 (Nat.mod_lt _ (by decide)) w
  have hv : truncM 32 s sat neg q = ((if neg then (18446744073709551616 - q) % 18446744073709551616 else q) % 4294967296,0) := by
   unfold truncM
   rw [if_pos hin]
   cases neg with
   | false => rfl
   | true =>
    have := cutneg_32 q (Nat.le_trans hin (hbn rfl))
    rw [if_pos rfl,if_pos rfl,this]
  rw [hv]
  exact this
 ·have hor : f = false ∨ bnd 32 s neg < q := by
   cases f with
   | true => have := ht rfl; exact .inr (by omega)
   | false => exact .inl rfl
  cases sat with
  | false =>
   have := Trunc_32_over F s neg f a k m q e hk0 hk4 HK HP HW hor w
   have hv : truncM 32 s false neg M = (0,42) := by unfold truncM; rw [if_neg hin,if_neg (by decide)]
   rw [hv]
   exact this
  | true =>
   have hb64 : bnd 32 s neg < 18446744073709551616 := by omega
   have := Trunc_32_held F s neg f a k m q _ e hk0 hk4 HK HP HW hor (wrap_neg _ hb64) hb64 (Nat.mod_lt _ (by decide)) w
   have hv : truncM 32 s true neg M = ((if neg then (18446744073709551616 - bnd 32 s neg) % 18446744073709551616 else bnd 32 s neg) % 4294967296,0) := by
    unfold truncM
    rw [if_neg hin,if_pos rfl]
    cases neg with
    | false => rfl
    | true =>
     have := cutneg_32 (bnd 32 s true) (hbn rfl)
     rw [if_pos rfl,if_pos rfl,this]
   rw [hv]
   exact this
theorem bnd_64 (s neg : Bool) : bnd 64 s neg < 18446744073709551616 ∧ (neg = true → bnd 64 s neg ≤ 9223372036854775808) := by
 cases s <;> cases neg <;> decide
theorem cutneg_64 (q : Nat) (h : q ≤ 9223372036854775808) : (18446744073709551616 - q) % 18446744073709551616 % 18446744073709551616 = (18446744073709551616 - q) % 18446744073709551616 := by omega
theorem Trunc_64_any (F : Int) (s sat neg : Bool) (a k m : Nat) (e : Int) (hm : m < 18446744073709551616) (h0 : -4000 ≤ e) (h1 : e ≤ 4000) (hk0 : ((k : Int) == 0) = false) (hk4 : ((k : Int) == 4) = false)
  (HK : ∀ W,Hid (Say 142 #[.int .i64 F,.int .u64 a] W (.int .i64 (k : Int))))
  (HP : ∀ W,Hid (Say 144 #[.int .i64 F,.int .u64 a] W (.tuple #[.bool neg,.int .u64 (m : Int),.int .i64 e]))) (w : World) :
  Say 81 #[.int .i64 F,.int .i64 64,.bool s,.bool sat,.int .u64 a] w (.tuple #[.int .u64 ((truncM 64 s sat neg (mag m e)).1 : Int),.int .i64 (truncM 64 s sat neg (mag m e)).2]) := by
 obtain ⟨q,f,HW,hq64,ht,hf⟩ := whole_any m hm e h0 h1
 obtain ⟨hb,hbn⟩ := bnd_64 s neg
 generalize mag m e = M at *
 by_cases hin : M ≤ bnd 64 s neg
 ·have hff : f = true := by
   cases f with
   | true => rfl
   | false => have := hf rfl; omega
  subst hff
  have hqM := ht rfl
  subst hqM
  have := Trunc_64_in F s sat neg a k m q _ e hk0 hk4 HK HP HW hin (wrap_neg q hq64) hq64 (Nat.mod_lt _ (by decide)) w
  have hv : truncM 64 s sat neg q = ((if neg then (18446744073709551616 - q) % 18446744073709551616 else q) % 18446744073709551616,0) := by
   unfold truncM
   rw [if_pos hin]
   cases neg with
   | false => rfl
   | true =>
    have := cutneg_64 q (Nat.le_trans hin (hbn rfl))
    rw [if_pos rfl,if_pos rfl,this]
  rw [hv]
  exact this
 ·have hor : f = false ∨ bnd 64 s neg < q := by
   cases f with
   | true => have := ht rfl; exact .inr (by omega)
   | false => exact .inl rfl
  cases sat with
  | false =>
   have := Trunc_64_over F s neg f a k m q e hk0 hk4 HK HP HW hor w
   have hv : truncM 64 s false neg M = (0,42) := by unfold truncM; rw [if_neg hin,if_neg (by decide)]
   rw [hv]
   exact this
  | true =>
   have hb64 : bnd 64 s neg < 18446744073709551616 := by omega
   have := Trunc_64_held F s neg f a k m q _ e hk0 hk4 HK HP HW hor (wrap_neg _ hb64) hb64 (Nat.mod_lt _ (by decide)) w
   have hv : truncM 64 s true neg M = ((if neg then (18446744073709551616 - bnd 64 s neg) % 18446744073709551616 else bnd 64 s neg) % 18446744073709551616,0) := by
    unfold truncM
    rw [if_neg hin,if_pos rfl]
    cases neg with
    | false => rfl
    | true =>
     have := cutneg_64 (bnd 64 s true) (hbn rfl)
     rw [if_pos rfl,if_pos rfl,this]
   rw [hv]
   exact this
theorem Trunc_32_32 (s sat : Bool) (a : Nat) (ha : a < 18446744073709551616) (w : World) :
  Say 81 #[.int .i64 32,.int .i64 32,.bool s,.bool sat,.int .u64 a] w (.tuple #[.int .u64 ((truncW 2147483648 2139095040 23 (-149) 32 s sat (a % 4294967296)).1 : Int),.int .i64 (truncW 2147483648 2139095040 23 (-149) 32 s sat (a % 4294967296)).2]) := by
 have HK := fun W => hid (Kind_32 a ha W)
 by_cases hn : 2139095040 < a % 4294967296 % 2147483648
 ·rw [kind_4 hn] at HK
  have hv : truncW 2147483648 2139095040 23 (-149) 32 s sat (a % 4294967296) = (0,if sat then 0 else 43) := by unfold truncW; rw [if_pos hn]
  rw [hv]
  exact Trunc_32_nan 32 s sat a HK w
 ·have hv : truncW 2147483648 2139095040 23 (-149) 32 s sat (a % 4294967296) = truncM 32 s sat (decide (2147483648 ≤ a % 4294967296)) (mag (wm 2147483648 2139095040 23 (a % 4294967296)) (we 2147483648 2139095040 23 (-149) (a % 4294967296))) := by unfold truncW; rw [if_neg hn]
  rw [hv]
  have k0 : ((kindOf 2139095040 (a % 4294967296 % 2147483648) : Int) == 0) = false := by
   have := kind_ne 2139095040 (a % 4294967296 % 2147483648)
   exact beq_eq_false_iff_ne.2 (by omega)
  have k4 : ((kindOf 2139095040 (a % 4294967296 % 2147483648) : Int) == 4) = false := by
   have := kind_not4 (Nat.le_of_not_lt hn)
   exact beq_eq_false_iff_ne.2 (by omega)
  by_cases hi : a % 4294967296 % 2147483648 = 2139095040
  ·rw [show wm 2147483648 2139095040 23 (a % 4294967296) = 1 by unfold wm; rw [if_pos hi],show we 2147483648 2139095040 23 (-149) (a % 4294967296) = 1024 by unfold we; rw [if_pos hi]]
   exact Trunc_32_any 32 s sat _ a _ 1 1024 (by decide) (by decide) (by decide) k0 k4 HK (fun W => hid (cparts_32_inf a ha hi W)) w
  ·rw [show wm 2147483648 2139095040 23 (a % 4294967296) = pm 23 (a % 4294967296 % 2147483648) by unfold wm; rw [if_neg hi],show we 2147483648 2139095040 23 (-149) (a % 4294967296) = pe 23 (-149) (a % 4294967296 % 2147483648) by unfold we; rw [if_neg hi]]
   have hf : a % 4294967296 % 2147483648 < 2139095040 := by omega
   have hm := pm_lt 23 (a % 4294967296 % 2147483648)
   have he := pe_eq 23 (-149) (a % 4294967296 % 2147483648)
   have hq : a % 4294967296 % 2147483648 / 2 ^ 23 ≤ 2047 := by show a % 4294967296 % 2147483648 / 8388608 ≤ 2047; omega
   have HP := fun W => hid (cparts_32 a ha hf W)
   generalize pm 23 (a % 4294967296 % 2147483648) = m at *
   generalize a % 4294967296 % 2147483648 / 2 ^ 23 = q at *
   generalize pe 23 (-149) (a % 4294967296 % 2147483648) = e at *
   have hm2 : m < 18446744073709551616 := Nat.lt_trans hm (by decide)
   have he1 : -4000 ≤ e := by clear hm2 hm HP HK k0 k4; omega
   have he2 : e ≤ 4000 := by clear hm2 hm HP HK k0 k4; omega
   exact Trunc_32_any 32 s sat _ a _ m e hm2 he1 he2 k0 k4 HK HP w
theorem Trunc_32_64 (s sat : Bool) (a : Nat) (ha : a < 18446744073709551616) (w : World) :
  Say 81 #[.int .i64 32,.int .i64 64,.bool s,.bool sat,.int .u64 a] w (.tuple #[.int .u64 ((truncW 2147483648 2139095040 23 (-149) 64 s sat (a % 4294967296)).1 : Int),.int .i64 (truncW 2147483648 2139095040 23 (-149) 64 s sat (a % 4294967296)).2]) := by
 have HK := fun W => hid (Kind_32 a ha W)
 by_cases hn : 2139095040 < a % 4294967296 % 2147483648
 ·rw [kind_4 hn] at HK
  have hv : truncW 2147483648 2139095040 23 (-149) 64 s sat (a % 4294967296) = (0,if sat then 0 else 43) := by unfold truncW; rw [if_pos hn]
  rw [hv]
  exact Trunc_64_nan 32 s sat a HK w
 ·have hv : truncW 2147483648 2139095040 23 (-149) 64 s sat (a % 4294967296) = truncM 64 s sat (decide (2147483648 ≤ a % 4294967296)) (mag (wm 2147483648 2139095040 23 (a % 4294967296)) (we 2147483648 2139095040 23 (-149) (a % 4294967296))) := by unfold truncW; rw [if_neg hn]
  rw [hv]
  have k0 : ((kindOf 2139095040 (a % 4294967296 % 2147483648) : Int) == 0) = false := by
   have := kind_ne 2139095040 (a % 4294967296 % 2147483648)
   exact beq_eq_false_iff_ne.2 (by omega)
  have k4 : ((kindOf 2139095040 (a % 4294967296 % 2147483648) : Int) == 4) = false := by
   have := kind_not4 (Nat.le_of_not_lt hn)
   exact beq_eq_false_iff_ne.2 (by omega)
  by_cases hi : a % 4294967296 % 2147483648 = 2139095040
  ·rw [show wm 2147483648 2139095040 23 (a % 4294967296) = 1 by unfold wm; rw [if_pos hi],show we 2147483648 2139095040 23 (-149) (a % 4294967296) = 1024 by unfold we; rw [if_pos hi]]
   exact Trunc_64_any 32 s sat _ a _ 1 1024 (by decide) (by decide) (by decide) k0 k4 HK (fun W => hid (cparts_32_inf a ha hi W)) w
  ·rw [show wm 2147483648 2139095040 23 (a % 4294967296) = pm 23 (a % 4294967296 % 2147483648) by unfold wm; rw [if_neg hi],show we 2147483648 2139095040 23 (-149) (a % 4294967296) = pe 23 (-149) (a % 4294967296 % 2147483648) by unfold we; rw [if_neg hi]]
   have hf : a % 4294967296 % 2147483648 < 2139095040 := by omega
   have hm := pm_lt 23 (a % 4294967296 % 2147483648)
   have he := pe_eq 23 (-149) (a % 4294967296 % 2147483648)
   have hq : a % 4294967296 % 2147483648 / 2 ^ 23 ≤ 2047 := by show a % 4294967296 % 2147483648 / 8388608 ≤ 2047; omega
   have HP := fun W => hid (cparts_32 a ha hf W)
   generalize pm 23 (a % 4294967296 % 2147483648) = m at *
   generalize a % 4294967296 % 2147483648 / 2 ^ 23 = q at *
   generalize pe 23 (-149) (a % 4294967296 % 2147483648) = e at *
   have hm2 : m < 18446744073709551616 := Nat.lt_trans hm (by decide)
   have he1 : -4000 ≤ e := by clear hm2 hm HP HK k0 k4; omega
   have he2 : e ≤ 4000 := by clear hm2 hm HP HK k0 k4; omega
   exact Trunc_64_any 32 s sat _ a _ m e hm2 he1 he2 k0 k4 HK HP w
theorem Trunc_64_32 (s sat : Bool) (a : Nat) (ha : a < 18446744073709551616) (w : World) :
  Say 81 #[.int .i64 64,.int .i64 32,.bool s,.bool sat,.int .u64 a] w (.tuple #[.int .u64 ((truncW 9223372036854775808 9218868437227405312 52 (-1074) 32 s sat (a % 18446744073709551616)).1 : Int),.int .i64 (truncW 9223372036854775808 9218868437227405312 52 (-1074) 32 s sat (a % 18446744073709551616)).2]) := by
 have HK := fun W => hid (Kind_64 a ha W)
 by_cases hn : 9218868437227405312 < a % 18446744073709551616 % 9223372036854775808
 ·rw [kind_4 hn] at HK
  have hv : truncW 9223372036854775808 9218868437227405312 52 (-1074) 32 s sat (a % 18446744073709551616) = (0,if sat then 0 else 43) := by unfold truncW; rw [if_pos hn]
  rw [hv]
  exact Trunc_32_nan 64 s sat a HK w
 ·have hv : truncW 9223372036854775808 9218868437227405312 52 (-1074) 32 s sat (a % 18446744073709551616) = truncM 32 s sat (decide (9223372036854775808 ≤ a % 18446744073709551616)) (mag (wm 9223372036854775808 9218868437227405312 52 (a % 18446744073709551616)) (we 9223372036854775808 9218868437227405312 52 (-1074) (a % 18446744073709551616))) := by unfold truncW; rw [if_neg hn]
  rw [hv]
  have k0 : ((kindOf 9218868437227405312 (a % 18446744073709551616 % 9223372036854775808) : Int) == 0) = false := by
   have := kind_ne 9218868437227405312 (a % 18446744073709551616 % 9223372036854775808)
   exact beq_eq_false_iff_ne.2 (by omega)
  have k4 : ((kindOf 9218868437227405312 (a % 18446744073709551616 % 9223372036854775808) : Int) == 4) = false := by
   have := kind_not4 (Nat.le_of_not_lt hn)
   exact beq_eq_false_iff_ne.2 (by omega)
  by_cases hi : a % 18446744073709551616 % 9223372036854775808 = 9218868437227405312
  ·rw [show wm 9223372036854775808 9218868437227405312 52 (a % 18446744073709551616) = 1 by unfold wm; rw [if_pos hi],show we 9223372036854775808 9218868437227405312 52 (-1074) (a % 18446744073709551616) = 1024 by unfold we; rw [if_pos hi]]
   exact Trunc_32_any 64 s sat _ a _ 1 1024 (by decide) (by decide) (by decide) k0 k4 HK (fun W => hid (cparts_64_inf a ha hi W)) w
  ·rw [show wm 9223372036854775808 9218868437227405312 52 (a % 18446744073709551616) = pm 52 (a % 18446744073709551616 % 9223372036854775808) by unfold wm; rw [if_neg hi],show we 9223372036854775808 9218868437227405312 52 (-1074) (a % 18446744073709551616) = pe 52 (-1074) (a % 18446744073709551616 % 9223372036854775808) by unfold we; rw [if_neg hi]]
   have hf : a % 18446744073709551616 % 9223372036854775808 < 9218868437227405312 := by omega
   have hm := pm_lt 52 (a % 18446744073709551616 % 9223372036854775808)
   have he := pe_eq 52 (-1074) (a % 18446744073709551616 % 9223372036854775808)
   have hq : a % 18446744073709551616 % 9223372036854775808 / 2 ^ 52 ≤ 2047 := by show a % 18446744073709551616 % 9223372036854775808 / 4503599627370496 ≤ 2047; omega
   have HP := fun W => hid (cparts_64 a ha hf W)
   generalize pm 52 (a % 18446744073709551616 % 9223372036854775808) = m at *
   generalize a % 18446744073709551616 % 9223372036854775808 / 2 ^ 52 = q at *
   generalize pe 52 (-1074) (a % 18446744073709551616 % 9223372036854775808) = e at *
   have hm2 : m < 18446744073709551616 := Nat.lt_trans hm (by decide)
   have he1 : -4000 ≤ e := by clear hm2 hm HP HK k0 k4; omega
   have he2 : e ≤ 4000 := by clear hm2 hm HP HK k0 k4; omega
   exact Trunc_32_any 64 s sat _ a _ m e hm2 he1 he2 k0 k4 HK HP w
theorem Trunc_64_64 (s sat : Bool) (a : Nat) (ha : a < 18446744073709551616) (w : World) :
  Say 81 #[.int .i64 64,.int .i64 64,.bool s,.bool sat,.int .u64 a] w (.tuple #[.int .u64 ((truncW 9223372036854775808 9218868437227405312 52 (-1074) 64 s sat (a % 18446744073709551616)).1 : Int),.int .i64 (truncW 9223372036854775808 9218868437227405312 52 (-1074) 64 s sat (a % 18446744073709551616)).2]) := by
 have HK := fun W => hid (Kind_64 a ha W)
 by_cases hn : 9218868437227405312 < a % 18446744073709551616 % 9223372036854775808
 ·rw [kind_4 hn] at HK
  have hv : truncW 9223372036854775808 9218868437227405312 52 (-1074) 64 s sat (a % 18446744073709551616) = (0,if sat then 0 else 43) := by unfold truncW; rw [if_pos hn]
  rw [hv]
  exact Trunc_64_nan 64 s sat a HK w
 ·have hv : truncW 9223372036854775808 9218868437227405312 52 (-1074) 64 s sat (a % 18446744073709551616) = truncM 64 s sat (decide (9223372036854775808 ≤ a % 18446744073709551616)) (mag (wm 9223372036854775808 9218868437227405312 52 (a % 18446744073709551616)) (we 9223372036854775808 9218868437227405312 52 (-1074) (a % 18446744073709551616))) := by unfold truncW; rw [if_neg hn]
  rw [hv]
  have k0 : ((kindOf 9218868437227405312 (a % 18446744073709551616 % 9223372036854775808) : Int) == 0) = false := by
   have := kind_ne 9218868437227405312 (a % 18446744073709551616 % 9223372036854775808)
   exact beq_eq_false_iff_ne.2 (by omega)
  have k4 : ((kindOf 9218868437227405312 (a % 18446744073709551616 % 9223372036854775808) : Int) == 4) = false := by
   have := kind_not4 (Nat.le_of_not_lt hn)
   exact beq_eq_false_iff_ne.2 (by omega)
  by_cases hi : a % 18446744073709551616 % 9223372036854775808 = 9218868437227405312
  ·rw [show wm 9223372036854775808 9218868437227405312 52 (a % 18446744073709551616) = 1 by unfold wm; rw [if_pos hi],show we 9223372036854775808 9218868437227405312 52 (-1074) (a % 18446744073709551616) = 1024 by unfold we; rw [if_pos hi]]
   exact Trunc_64_any 64 s sat _ a _ 1 1024 (by decide) (by decide) (by decide) k0 k4 HK (fun W => hid (cparts_64_inf a ha hi W)) w
  ·rw [show wm 9223372036854775808 9218868437227405312 52 (a % 18446744073709551616) = pm 52 (a % 18446744073709551616 % 9223372036854775808) by unfold wm; rw [if_neg hi],show we 9223372036854775808 9218868437227405312 52 (-1074) (a % 18446744073709551616) = pe 52 (-1074) (a % 18446744073709551616 % 9223372036854775808) by unfold we; rw [if_neg hi]]
   have hf : a % 18446744073709551616 % 9223372036854775808 < 9218868437227405312 := by omega
   have hm := pm_lt 52 (a % 18446744073709551616 % 9223372036854775808)
   have he := pe_eq 52 (-1074) (a % 18446744073709551616 % 9223372036854775808)
   have hq : a % 18446744073709551616 % 9223372036854775808 / 2 ^ 52 ≤ 2047 := by show a % 18446744073709551616 % 9223372036854775808 / 4503599627370496 ≤ 2047; omega
   have HP := fun W => hid (cparts_64 a ha hf W)
   generalize pm 52 (a % 18446744073709551616 % 9223372036854775808) = m at *
   generalize a % 18446744073709551616 % 9223372036854775808 / 2 ^ 52 = q at *
   generalize pe 52 (-1074) (a % 18446744073709551616 % 9223372036854775808) = e at *
   have hm2 : m < 18446744073709551616 := Nat.lt_trans hm (by decide)
   have he1 : -4000 ≤ e := by clear hm2 hm HP HK k0 k4; omega
   have he2 : e ≤ 4000 := by clear hm2 hm HP HK k0 k4; omega
   exact Trunc_64_any 64 s sat _ a _ m e hm2 he1 he2 k0 k4 HK HP w
end Go.Proofs.YtbbmbhcbncenaaaGreatDoor.Fl
