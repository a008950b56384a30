/-
  FCTrunc: merged (each text says what it holds where it lies in wip). No condition.
-/
import Derived.Test.YtlhakbkdlgejpaaGreatDoorF08
set_option linter.unusedSimpArgs false
set_option linter.unusedVariables false
set_option maxRecDepth 100000
namespace Go.Proofs.YtlhakbkdlgejpaaGreatDoor.Fl
open Go.RowKit

/-- Block g holds an integer type. -/
def Ib (n : Int) (s : Bool) (g : Nat) (W : World) : Prop := W.cell? ⟨g, 0, none⟩ = some (.int .i64 n) ∧ W.cell? ⟨g, 1, none⟩ = some (.bool s)
theorem Ib.call {n : Int} {s : Bool} {g : Nat} {W W' : World} (h : Ib n s g W) (hb : Below W.heap.size W W') : Ib n s g W' := ⟨bkeep h.1 hb, bkeep h.2 hb⟩
theorem Ib.new (n : Int) (s : Bool) (W : World) : Ib n s W.heap.size (W.alloc (.cells #[.int .i64 n, .bool s] 151)) := ⟨by simp, by simp⟩
/-- It is a new block, and the world is younger than w. -/
def Si (n : Int) (s : Bool) (w : World) (g : Nat) (W : World) : Prop := Ib n s g W ∧ w.heap.size ≤ g ∧ Below w.heap.size w W
theorem Si.call {n : Int} {s : Bool} {w W W' : World} {g : Nat} (h : Si n s w g W) (hb : Below W.heap.size W W') : Si n s w g W' := ⟨h.1.call hb, h.2.1, bnext h.2.2 hb⟩
theorem Si.new (n : Int) (s : Bool) {w w1 : World} (hb : Below w.heap.size w w1) : Si n s w w1.heap.size (w1.alloc (.cells #[.int .i64 n, .bool s] 151)) := ⟨Ib.new n s w1, hb.size, balloc hb _⟩

/-- What a call of two answers comes to, all that there was being kept. -/
abbrev Say (f : Nat) (args : Array Value) (W : World) (v : Value) : Prop := Calls Tryz.prog f args W fun e w' => e = .returned v ∧ Below W.heap.size W w'

theorem Trunc_no (F b : Int) (h1 : b ≠ 32) (h2 : b ≠ 64) (s sat : Bool) (a k : Nat) (HK : ∀ W, Hid (Say 204 #[.int .i64 F, .int .u64 a] W (.int .i64 (k : Int)))) (w : World) :
    Say 141 #[.int .i64 F, .int .i64 b, .bool s, .bool sat, .int .u64 a] w (.tuple #[.int .u64 0, .int .i64 1]) := by
  have HI := fun W => hid (integerOf_no b h1 h2 s W)
  have hB : Below w.heap.size w w := Below.refl _ _
  clear h1 h2
  go_enter Tryz.func141, Tryz.ntmps141
  go_wp2_with (first
    | (go_at_call 203; ((with_reducible refine (HI _).out.mono ?_); rintro e w1 ⟨rfl, hb⟩; replace hB := bnext hB hb; clear hb))
    | (go_at_call 204; ((with_reducible refine (HK _).out.mono ?_); rintro e w2 ⟨rfl, hb⟩; replace hB := bnext hB hb; clear hb))
    | (go_at_call 205; ((with_reducible refine (iknown_no _).mono ?_); rintro e w3 ⟨rfl, hb⟩; have hS := (Si.new 0 false hB).call hb; obtain ⟨c0, c1⟩ := id hS.1)))
  exact bodyPost_ret (v := .tuple #[.int .u64 0, .int .i64 1]) (by simp [results, Tryz.results141, go_sem]) rfl ⟨rfl, hS.2.2⟩

theorem Trunc_32_wrong (F : Int) (s sat : Bool) (a : Nat) (HK : ∀ W, Hid (Say 204 #[.int .i64 F, .int .u64 a] W (.int .i64 0))) (w : World) :
    Say 141 #[.int .i64 F, .int .i64 32, .bool s, .bool sat, .int .u64 a] w (.tuple #[.int .u64 0, .int .i64 1]) := by
  have HI := fun W => hid (integerOf_32 s W)
  have HN := fun W => hid (iknown_32 s W)
  have hB : Below w.heap.size w w := Below.refl _ _
  go_enter Tryz.func141, Tryz.ntmps141
  go_wp2_with (first
    | (go_at_call 203; ((with_reducible refine (HI _).out.mono ?_); rintro e w1 ⟨rfl, hb⟩; replace hB := bnext hB hb; clear hb))
    | (go_at_call 204; ((with_reducible refine (HK _).out.mono ?_); rintro e w2 ⟨rfl, hb⟩; replace hB := bnext hB hb; clear hb))
    | (go_at_call 205; ((with_reducible refine (HN _).out.mono ?_); rintro e w3 ⟨rfl, hb⟩; have hS := (Si.new 32 s hB).call hb; obtain ⟨c0, c1⟩ := id hS.1; clear hb hB)))
  exact bodyPost_ret (v := .tuple #[.int .u64 0, .int .i64 1]) (by simp [results, Tryz.results141, go_sem]) rfl ⟨rfl, hS.2.2⟩

theorem Trunc_32_nan (F : Int) (s sat : Bool) (a : Nat) (HK : ∀ W, Hid (Say 204 #[.int .i64 F, .int .u64 a] W (.int .i64 4))) (w : World) :
    Say 141 #[.int .i64 F, .int .i64 32, .bool s, .bool sat, .int .u64 a] w (.tuple #[.int .u64 0, .int .i64 (if sat then 0 else 43)]) := by
  have HI := fun W => hid (integerOf_32 s W)
  have HN := fun W => hid (iknown_32 s W)
  have hB : Below w.heap.size w w := Below.refl _ _
  cases sat
  · go_enter Tryz.func141, Tryz.ntmps141
    go_wp2_with (first
      | (go_at_call 203; ((with_reducible refine (HI _).out.mono ?_); rintro e w1 ⟨rfl, hb⟩; replace hB := bnext hB hb; clear hb))
      | (go_at_call 204; ((with_reducible refine (HK _).out.mono ?_); rintro e w2 ⟨rfl, hb⟩; replace hB := bnext hB hb; clear hb))
      | (go_at_call 205; ((with_reducible refine (HN _).out.mono ?_); rintro e w3 ⟨rfl, hb⟩; have hS := (Si.new 32 s hB).call hb; obtain ⟨c0, c1⟩ := id hS.1; clear hb hB)))
    exact bodyPost_ret (v := .tuple #[.int .u64 0, .int .i64 43]) (by simp [results, Tryz.results141, go_sem]) rfl ⟨rfl, hS.2.2⟩
  · go_enter Tryz.func141, Tryz.ntmps141
    go_wp2_with (first
      | (go_at_call 203; ((with_reducible refine (HI _).out.mono ?_); rintro e w1 ⟨rfl, hb⟩; replace hB := bnext hB hb; clear hb))
      | (go_at_call 204; ((with_reducible refine (HK _).out.mono ?_); rintro e w2 ⟨rfl, hb⟩; replace hB := bnext hB hb; clear hb))
      | (go_at_call 205; ((with_reducible refine (HN _).out.mono ?_); rintro e w3 ⟨rfl, hb⟩; have hS := (Si.new 32 s hB).call hb; obtain ⟨c0, c1⟩ := id hS.1; clear hb hB)))
    exact bodyPost_ret (v := .tuple #[.int .u64 0, .int .i64 0]) (by simp [results, Tryz.results141, go_sem]) rfl ⟨rfl, hS.2.2⟩

theorem Trunc_32_in (F : Int) (s sat neg : Bool) (a k m q y : Nat) (e : Int) (hk0 : ((k : Int) == 0) = false) (hk4 : ((k : Int) == 4) = false) (HK : ∀ W, Hid (Say 204 #[.int .i64 F, .int .u64 a] W (.int .i64 (k : Int))))
    (HP : ∀ W, Hid (Say 206 #[.int .i64 F, .int .u64 a] W (.tuple #[.bool neg, .int .u64 (m : Int), .int .i64 e])))
    (HW : ∀ W, Hid (Say 207 #[.int .u64 (m : Int), .int .i64 e] W (.tuple #[.int .u64 (q : Int), .bool true])))
    (hq : q ≤ bnd 32 s neg) (hy : IntKind.u64.wrap (-(q : Int)) = (y : Int)) (hq64 : q < 18446744073709551616) (hy64 : y < 18446744073709551616) (w : World) :
    Say 141 #[.int .i64 F, .int .i64 32, .bool s, .bool sat, .int .u64 a] w (.tuple #[.int .u64 (((if neg then y else q) % 4294967296 : Nat) : Int), .int .i64 0]) := by
  have HI := fun W => hid (integerOf_32 s W)
  have HN := fun W => hid (iknown_32 s W)
  have hB : Below w.heap.size w w := Below.refl _ _
  have HBD := fun W => hid (bound_32 s neg W)
  generalize bnd 32 s neg = b at *
  have hd1 : decide ((b : Int) < (q : Int)) = false := decide_eq_false (by omega)
  have hd2 : decide (b < q) = false := decide_eq_false (by omega)
  cases neg
  · have HC := fun W => hid (icut_32 s q hq64 W)
    rw [if_neg (by decide)]
    obtain ⟨c, hc⟩ : ∃ c : Nat, c = q % 4294967296 := ⟨_, rfl⟩
    rw [← hc] at HC ⊢
    clear hc hq hq64 hy64 hy
    go_enter Tryz.func141, Tryz.ntmps141
    go_wp2_with (first
      | (go_at_call 203; ((with_reducible refine (HI _).out.mono ?_); rintro e w1 ⟨rfl, hb⟩; replace hB := bnext hB hb; clear hb))
      | (go_at_call 204; ((with_reducible refine (HK _).out.mono ?_); rintro e w2 ⟨rfl, hb⟩; replace hB := bnext hB hb; clear hb))
      | (go_at_call 205; ((with_reducible refine (HN _).out.mono ?_); rintro e w3 ⟨rfl, hb⟩; have hS := (Si.new 32 s hB).call hb; obtain ⟨c0, c1⟩ := id hS.1; clear hb hB))
      | (go_at_call 206; ((with_reducible refine (HP _).out.mono ?_); rintro e w4 ⟨rfl, hb⟩; replace hS := hS.call hb; clear c0 c1 hb; obtain ⟨c0, c1⟩ := id hS.1))
      | (go_at_call 207; ((with_reducible refine (HW _).out.mono ?_); rintro e w4 ⟨rfl, hb⟩; replace hS := hS.call hb; clear c0 c1 hb; obtain ⟨c0, c1⟩ := id hS.1))
      | (go_at_call 208; ((with_reducible refine (HBD _).out.mono ?_); rintro e w4 ⟨rfl, hb⟩; replace hS := hS.call hb; clear c0 c1 hb; obtain ⟨c0, c1⟩ := id hS.1))
      | (go_at_call 209; ((with_reducible refine (HC _).out.mono ?_); rintro e w4 ⟨rfl, hb⟩; replace hS := hS.call hb; clear c0 c1 hb; obtain ⟨c0, c1⟩ := id hS.1)))
    exact bodyPost_ret (v := .tuple #[.int .u64 (c : Int), .int .i64 0]) (by simp [results, Tryz.results141, go_sem]) rfl ⟨rfl, hS.2.2⟩
  · have HC := fun W => hid (icut_32 s y hy64 W)
    rw [if_pos rfl]
    obtain ⟨c, hc⟩ : ∃ c : Nat, c = y % 4294967296 := ⟨_, rfl⟩
    rw [← hc] at HC ⊢
    clear hc hq hq64 hy64
    go_enter Tryz.func141, Tryz.ntmps141
    go_wp2_with (first
      | (go_at_call 203; ((with_reducible refine (HI _).out.mono ?_); rintro e w1 ⟨rfl, hb⟩; replace hB := bnext hB hb; clear hb))
      | (go_at_call 204; ((with_reducible refine (HK _).out.mono ?_); rintro e w2 ⟨rfl, hb⟩; replace hB := bnext hB hb; clear hb))
      | (go_at_call 205; ((with_reducible refine (HN _).out.mono ?_); rintro e w3 ⟨rfl, hb⟩; have hS := (Si.new 32 s hB).call hb; obtain ⟨c0, c1⟩ := id hS.1; clear hb hB))
      | (go_at_call 206; ((with_reducible refine (HP _).out.mono ?_); rintro e w4 ⟨rfl, hb⟩; replace hS := hS.call hb; clear c0 c1 hb; obtain ⟨c0, c1⟩ := id hS.1))
      | (go_at_call 207; ((with_reducible refine (HW _).out.mono ?_); rintro e w4 ⟨rfl, hb⟩; replace hS := hS.call hb; clear c0 c1 hb; obtain ⟨c0, c1⟩ := id hS.1))
      | (go_at_call 208; ((with_reducible refine (HBD _).out.mono ?_); rintro e w4 ⟨rfl, hb⟩; replace hS := hS.call hb; clear c0 c1 hb; obtain ⟨c0, c1⟩ := id hS.1))
      | (go_at_call 209; ((with_reducible refine (HC _).out.mono ?_); rintro e w4 ⟨rfl, hb⟩; replace hS := hS.call hb; clear c0 c1 hb; obtain ⟨c0, c1⟩ := id hS.1)))
    exact bodyPost_ret (v := .tuple #[.int .u64 (c : Int), .int .i64 0]) (by simp [results, Tryz.results141, go_sem]) rfl ⟨rfl, hS.2.2⟩

theorem Trunc_32_over (F : Int) (s neg f : Bool) (a k m q : Nat) (e : Int) (hk0 : ((k : Int) == 0) = false) (hk4 : ((k : Int) == 4) = false) (HK : ∀ W, Hid (Say 204 #[.int .i64 F, .int .u64 a] W (.int .i64 (k : Int))))
    (HP : ∀ W, Hid (Say 206 #[.int .i64 F, .int .u64 a] W (.tuple #[.bool neg, .int .u64 (m : Int), .int .i64 e])))
    (HW : ∀ W, Hid (Say 207 #[.int .u64 (m : Int), .int .i64 e] W (.tuple #[.int .u64 (q : Int), .bool f])))
    (hq : f = false ∨ bnd 32 s neg < q) (w : World) :
    Say 141 #[.int .i64 F, .int .i64 32, .bool s, .bool false, .int .u64 a] w (.tuple #[.int .u64 0, .int .i64 42]) := by
  have HI := fun W => hid (integerOf_32 s W)
  have HN := fun W => hid (iknown_32 s W)
  have hB : Below w.heap.size w w := Below.refl _ _
  have HBD := fun W => hid (bound_32 s neg W)
  generalize bnd 32 s neg = b at *
  cases f
  · clear hq
    go_enter Tryz.func141, Tryz.ntmps141
    go_wp2_with (first
      | (go_at_call 203; ((with_reducible refine (HI _).out.mono ?_); rintro e w1 ⟨rfl, hb⟩; replace hB := bnext hB hb; clear hb))
      | (go_at_call 204; ((with_reducible refine (HK _).out.mono ?_); rintro e w2 ⟨rfl, hb⟩; replace hB := bnext hB hb; clear hb))
      | (go_at_call 205; ((with_reducible refine (HN _).out.mono ?_); rintro e w3 ⟨rfl, hb⟩; have hS := (Si.new 32 s hB).call hb; obtain ⟨c0, c1⟩ := id hS.1; clear hb hB))
      | (go_at_call 206; ((with_reducible refine (HP _).out.mono ?_); rintro e w4 ⟨rfl, hb⟩; replace hS := hS.call hb; clear c0 c1 hb; obtain ⟨c0, c1⟩ := id hS.1))
      | (go_at_call 207; ((with_reducible refine (HW _).out.mono ?_); rintro e w4 ⟨rfl, hb⟩; replace hS := hS.call hb; clear c0 c1 hb; obtain ⟨c0, c1⟩ := id hS.1))
      | (go_at_call 208; ((with_reducible refine (HBD _).out.mono ?_); rintro e w4 ⟨rfl, hb⟩; replace hS := hS.call hb; clear c0 c1 hb; obtain ⟨c0, c1⟩ := id hS.1)))
    exact bodyPost_ret (v := .tuple #[.int .u64 0, .int .i64 42]) (by simp [results, Tryz.results141, go_sem]) rfl ⟨rfl, hS.2.2⟩
  · have hq2 : b < q := by rcases hq with h | h; cases h; exact h
    have hd1 : decide ((b : Int) < (q : Int)) = true := decide_eq_true (by omega)
    have hd2 : decide (b < q) = true := decide_eq_true hq2
    clear hq hq2
    go_enter Tryz.func141, Tryz.ntmps141
    go_wp2_with (first
      | (go_at_call 203; ((with_reducible refine (HI _).out.mono ?_); rintro e w1 ⟨rfl, hb⟩; replace hB := bnext hB hb; clear hb))
      | (go_at_call 204; ((with_reducible refine (HK _).out.mono ?_); rintro e w2 ⟨rfl, hb⟩; replace hB := bnext hB hb; clear hb))
      | (go_at_call 205; ((with_reducible refine (HN _).out.mono ?_); rintro e w3 ⟨rfl, hb⟩; have hS := (Si.new 32 s hB).call hb; obtain ⟨c0, c1⟩ := id hS.1; clear hb hB))
      | (go_at_call 206; ((with_reducible refine (HP _).out.mono ?_); rintro e w4 ⟨rfl, hb⟩; replace hS := hS.call hb; clear c0 c1 hb; obtain ⟨c0, c1⟩ := id hS.1))
      | (go_at_call 207; ((with_reducible refine (HW _).out.mono ?_); rintro e w4 ⟨rfl, hb⟩; replace hS := hS.call hb; clear c0 c1 hb; obtain ⟨c0, c1⟩ := id hS.1))
      | (go_at_call 208; ((with_reducible refine (HBD _).out.mono ?_); rintro e w4 ⟨rfl, hb⟩; replace hS := hS.call hb; clear c0 c1 hb; obtain ⟨c0, c1⟩ := id hS.1)))
    exact bodyPost_ret (v := .tuple #[.int .u64 0, .int .i64 42]) (by simp [results, Tryz.results141, go_sem]) rfl ⟨rfl, hS.2.2⟩

theorem Trunc_32_held (F : Int) (s neg f : Bool) (a k m q y : Nat) (e : Int) (hk0 : ((k : Int) == 0) = false) (hk4 : ((k : Int) == 4) = false) (HK : ∀ W, Hid (Say 204 #[.int .i64 F, .int .u64 a] W (.int .i64 (k : Int))))
    (HP : ∀ W, Hid (Say 206 #[.int .i64 F, .int .u64 a] W (.tuple #[.bool neg, .int .u64 (m : Int), .int .i64 e])))
    (HW : ∀ W, Hid (Say 207 #[.int .u64 (m : Int), .int .i64 e] W (.tuple #[.int .u64 (q : Int), .bool f])))
    (hq : f = false ∨ bnd 32 s neg < q) (hy : IntKind.u64.wrap (-((bnd 32 s neg : Nat) : Int)) = (y : Int)) (hb64 : bnd 32 s neg < 18446744073709551616) (hy64 : y < 18446744073709551616) (w : World) :
    Say 141 #[.int .i64 F, .int .i64 32, .bool s, .bool true, .int .u64 a] w (.tuple #[.int .u64 (((if neg then y else bnd 32 s neg) % 4294967296 : Nat) : Int), .int .i64 0]) := by
  have HI := fun W => hid (integerOf_32 s W)
  have HN := fun W => hid (iknown_32 s W)
  have hB : Below w.heap.size w w := Below.refl _ _
  have HBD := fun W => hid (bound_32 s neg W)
  generalize bnd 32 s neg = b at *
  obtain ⟨x, hx, hx64⟩ : ∃ x : Nat, x = (if neg then y else b) ∧ x < 18446744073709551616 := ⟨_, rfl, by cases neg <;> simp <;> assumption⟩
  have HC := fun W => hid (icut_32 s x hx64 W)
  rw [← hx]
  obtain ⟨c, hc⟩ : ∃ c : Nat, c = x % 4294967296 := ⟨_, rfl⟩
  rw [← hc] at HC ⊢
  clear hc hx64 hb64 hy64
  cases f
  · clear hq
    cases neg
    · rw [if_neg (by decide)] at hx
      subst hx
      clear hy
      go_enter Tryz.func141, Tryz.ntmps141
      go_wp2_with (first
        | (go_at_call 203; ((with_reducible refine (HI _).out.mono ?_); rintro e w1 ⟨rfl, hb⟩; replace hB := bnext hB hb; clear hb))
        | (go_at_call 204; ((with_reducible refine (HK _).out.mono ?_); rintro e w2 ⟨rfl, hb⟩; replace hB := bnext hB hb; clear hb))
        | (go_at_call 205; ((with_reducible refine (HN _).out.mono ?_); rintro e w3 ⟨rfl, hb⟩; have hS := (Si.new 32 s hB).call hb; obtain ⟨c0, c1⟩ := id hS.1; clear hb hB))
        | (go_at_call 206; ((with_reducible refine (HP _).out.mono ?_); rintro e w4 ⟨rfl, hb⟩; replace hS := hS.call hb; clear c0 c1 hb; obtain ⟨c0, c1⟩ := id hS.1))
        | (go_at_call 207; ((with_reducible refine (HW _).out.mono ?_); rintro e w4 ⟨rfl, hb⟩; replace hS := hS.call hb; clear c0 c1 hb; obtain ⟨c0, c1⟩ := id hS.1))
        | (go_at_call 208; ((with_reducible refine (HBD _).out.mono ?_); rintro e w4 ⟨rfl, hb⟩; replace hS := hS.call hb; clear c0 c1 hb; obtain ⟨c0, c1⟩ := id hS.1))
        | (go_at_call 209; ((with_reducible refine (HC _).out.mono ?_); rintro e w4 ⟨rfl, hb⟩; replace hS := hS.call hb; clear c0 c1 hb; obtain ⟨c0, c1⟩ := id hS.1)))
      exact bodyPost_ret (v := .tuple #[.int .u64 (c : Int), .int .i64 0]) (by simp [results, Tryz.results141, go_sem]) rfl ⟨rfl, hS.2.2⟩
    · rw [if_pos rfl] at hx
      subst hx
      go_enter Tryz.func141, Tryz.ntmps141
      go_wp2_with (first
        | (go_at_call 203; ((with_reducible refine (HI _).out.mono ?_); rintro e w1 ⟨rfl, hb⟩; replace hB := bnext hB hb; clear hb))
        | (go_at_call 204; ((with_reducible refine (HK _).out.mono ?_); rintro e w2 ⟨rfl, hb⟩; replace hB := bnext hB hb; clear hb))
        | (go_at_call 205; ((with_reducible refine (HN _).out.mono ?_); rintro e w3 ⟨rfl, hb⟩; have hS := (Si.new 32 s hB).call hb; obtain ⟨c0, c1⟩ := id hS.1; clear hb hB))
        | (go_at_call 206; ((with_reducible refine (HP _).out.mono ?_); rintro e w4 ⟨rfl, hb⟩; replace hS := hS.call hb; clear c0 c1 hb; obtain ⟨c0, c1⟩ := id hS.1))
        | (go_at_call 207; ((with_reducible refine (HW _).out.mono ?_); rintro e w4 ⟨rfl, hb⟩; replace hS := hS.call hb; clear c0 c1 hb; obtain ⟨c0, c1⟩ := id hS.1))
        | (go_at_call 208; ((with_reducible refine (HBD _).out.mono ?_); rintro e w4 ⟨rfl, hb⟩; replace hS := hS.call hb; clear c0 c1 hb; obtain ⟨c0, c1⟩ := id hS.1))
        | (go_at_call 209; ((with_reducible refine (HC _).out.mono ?_); rintro e w4 ⟨rfl, hb⟩; replace hS := hS.call hb; clear c0 c1 hb; obtain ⟨c0, c1⟩ := id hS.1)))
      exact bodyPost_ret (v := .tuple #[.int .u64 (c : Int), .int .i64 0]) (by simp [results, Tryz.results141, go_sem]) rfl ⟨rfl, hS.2.2⟩
  · have hq2 : b < q := by rcases hq with h | h; cases h; exact h
    have hd1 : decide ((b : Int) < (q : Int)) = true := decide_eq_true (by omega)
    have hd2 : decide (b < q) = true := decide_eq_true hq2
    clear hq hq2
    cases neg
    · rw [if_neg (by decide)] at hx
      subst hx
      clear hy
      go_enter Tryz.func141, Tryz.ntmps141
      go_wp2_with (first
        | (go_at_call 203; ((with_reducible refine (HI _).out.mono ?_); rintro e w1 ⟨rfl, hb⟩; replace hB := bnext hB hb; clear hb))
        | (go_at_call 204; ((with_reducible refine (HK _).out.mono ?_); rintro e w2 ⟨rfl, hb⟩; replace hB := bnext hB hb; clear hb))
        | (go_at_call 205; ((with_reducible refine (HN _).out.mono ?_); rintro e w3 ⟨rfl, hb⟩; have hS := (Si.new 32 s hB).call hb; obtain ⟨c0, c1⟩ := id hS.1; clear hb hB))
        | (go_at_call 206; ((with_reducible refine (HP _).out.mono ?_); rintro e w4 ⟨rfl, hb⟩; replace hS := hS.call hb; clear c0 c1 hb; obtain ⟨c0, c1⟩ := id hS.1))
        | (go_at_call 207; ((with_reducible refine (HW _).out.mono ?_); rintro e w4 ⟨rfl, hb⟩; replace hS := hS.call hb; clear c0 c1 hb; obtain ⟨c0, c1⟩ := id hS.1))
        | (go_at_call 208; ((with_reducible refine (HBD _).out.mono ?_); rintro e w4 ⟨rfl, hb⟩; replace hS := hS.call hb; clear c0 c1 hb; obtain ⟨c0, c1⟩ := id hS.1))
        | (go_at_call 209; ((with_reducible refine (HC _).out.mono ?_); rintro e w4 ⟨rfl, hb⟩; replace hS := hS.call hb; clear c0 c1 hb; obtain ⟨c0, c1⟩ := id hS.1)))
      exact bodyPost_ret (v := .tuple #[.int .u64 (c : Int), .int .i64 0]) (by simp [results, Tryz.results141, go_sem]) rfl ⟨rfl, hS.2.2⟩
    · rw [if_pos rfl] at hx
      subst hx
      go_enter Tryz.func141, Tryz.ntmps141
      go_wp2_with (first
        | (go_at_call 203; ((with_reducible refine (HI _).out.mono ?_); rintro e w1 ⟨rfl, hb⟩; replace hB := bnext hB hb; clear hb))
        | (go_at_call 204; ((with_reducible refine (HK _).out.mono ?_); rintro e w2 ⟨rfl, hb⟩; replace hB := bnext hB hb; clear hb))
        | (go_at_call 205; ((with_reducible refine (HN _).out.mono ?_); rintro e w3 ⟨rfl, hb⟩; have hS := (Si.new 32 s hB).call hb; obtain ⟨c0, c1⟩ := id hS.1; clear hb hB))
        | (go_at_call 206; ((with_reducible refine (HP _).out.mono ?_); rintro e w4 ⟨rfl, hb⟩; replace hS := hS.call hb; clear c0 c1 hb; obtain ⟨c0, c1⟩ := id hS.1))
        | (go_at_call 207; ((with_reducible refine (HW _).out.mono ?_); rintro e w4 ⟨rfl, hb⟩; replace hS := hS.call hb; clear c0 c1 hb; obtain ⟨c0, c1⟩ := id hS.1))
        | (go_at_call 208; ((with_reducible refine (HBD _).out.mono ?_); rintro e w4 ⟨rfl, hb⟩; replace hS := hS.call hb; clear c0 c1 hb; obtain ⟨c0, c1⟩ := id hS.1))
        | (go_at_call 209; ((with_reducible refine (HC _).out.mono ?_); rintro e w4 ⟨rfl, hb⟩; replace hS := hS.call hb; clear c0 c1 hb; obtain ⟨c0, c1⟩ := id hS.1)))
      exact bodyPost_ret (v := .tuple #[.int .u64 (c : Int), .int .i64 0]) (by simp [results, Tryz.results141, go_sem]) rfl ⟨rfl, hS.2.2⟩

theorem Trunc_64_wrong (F : Int) (s sat : Bool) (a : Nat) (HK : ∀ W, Hid (Say 204 #[.int .i64 F, .int .u64 a] W (.int .i64 0))) (w : World) :
    Say 141 #[.int .i64 F, .int .i64 64, .bool s, .bool sat, .int .u64 a] w (.tuple #[.int .u64 0, .int .i64 1]) := by
  have HI := fun W => hid (integerOf_64 s W)
  have HN := fun W => hid (iknown_64 s W)
  have hB : Below w.heap.size w w := Below.refl _ _
  go_enter Tryz.func141, Tryz.ntmps141
  go_wp2_with (first
    | (go_at_call 203; ((with_reducible refine (HI _).out.mono ?_); rintro e w1 ⟨rfl, hb⟩; replace hB := bnext hB hb; clear hb))
    | (go_at_call 204; ((with_reducible refine (HK _).out.mono ?_); rintro e w2 ⟨rfl, hb⟩; replace hB := bnext hB hb; clear hb))
    | (go_at_call 205; ((with_reducible refine (HN _).out.mono ?_); rintro e w3 ⟨rfl, hb⟩; have hS := (Si.new 64 s hB).call hb; obtain ⟨c0, c1⟩ := id hS.1; clear hb hB)))
  exact bodyPost_ret (v := .tuple #[.int .u64 0, .int .i64 1]) (by simp [results, Tryz.results141, go_sem]) rfl ⟨rfl, hS.2.2⟩

theorem Trunc_64_nan (F : Int) (s sat : Bool) (a : Nat) (HK : ∀ W, Hid (Say 204 #[.int .i64 F, .int .u64 a] W (.int .i64 4))) (w : World) :
    Say 141 #[.int .i64 F, .int .i64 64, .bool s, .bool sat, .int .u64 a] w (.tuple #[.int .u64 0, .int .i64 (if sat then 0 else 43)]) := by
  have HI := fun W => hid (integerOf_64 s W)
  have HN := fun W => hid (iknown_64 s W)
  have hB : Below w.heap.size w w := Below.refl _ _
  cases sat
  · go_enter Tryz.func141, Tryz.ntmps141
    go_wp2_with (first
      | (go_at_call 203; ((with_reducible refine (HI _).out.mono ?_); rintro e w1 ⟨rfl, hb⟩; replace hB := bnext hB hb; clear hb))
      | (go_at_call 204; ((with_reducible refine (HK _).out.mono ?_); rintro e w2 ⟨rfl, hb⟩; replace hB := bnext hB hb; clear hb))
      | (go_at_call 205; ((with_reducible refine (HN _).out.mono ?_); rintro e w3 ⟨rfl, hb⟩; have hS := (Si.new 64 s hB).call hb; obtain ⟨c0, c1⟩ := id hS.1; clear hb hB)))
    exact bodyPost_ret (v := .tuple #[.int .u64 0, .int .i64 43]) (by simp [results, Tryz.results141, go_sem]) rfl ⟨rfl, hS.2.2⟩
  · go_enter Tryz.func141, Tryz.ntmps141
    go_wp2_with (first
      | (go_at_call 203; ((with_reducible refine (HI _).out.mono ?_); rintro e w1 ⟨rfl, hb⟩; replace hB := bnext hB hb; clear hb))
      | (go_at_call 204; ((with_reducible refine (HK _).out.mono ?_); rintro e w2 ⟨rfl, hb⟩; replace hB := bnext hB hb; clear hb))
      | (go_at_call 205; ((with_reducible refine (HN _).out.mono ?_); rintro e w3 ⟨rfl, hb⟩; have hS := (Si.new 64 s hB).call hb; obtain ⟨c0, c1⟩ := id hS.1; clear hb hB)))
    exact bodyPost_ret (v := .tuple #[.int .u64 0, .int .i64 0]) (by simp [results, Tryz.results141, go_sem]) rfl ⟨rfl, hS.2.2⟩

theorem Trunc_64_in (F : Int) (s sat neg : Bool) (a k m q y : Nat) (e : Int) (hk0 : ((k : Int) == 0) = false) (hk4 : ((k : Int) == 4) = false) (HK : ∀ W, Hid (Say 204 #[.int .i64 F, .int .u64 a] W (.int .i64 (k : Int))))
    (HP : ∀ W, Hid (Say 206 #[.int .i64 F, .int .u64 a] W (.tuple #[.bool neg, .int .u64 (m : Int), .int .i64 e])))
    (HW : ∀ W, Hid (Say 207 #[.int .u64 (m : Int), .int .i64 e] W (.tuple #[.int .u64 (q : Int), .bool true])))
    (hq : q ≤ bnd 64 s neg) (hy : IntKind.u64.wrap (-(q : Int)) = (y : Int)) (hq64 : q < 18446744073709551616) (hy64 : y < 18446744073709551616) (w : World) :
    Say 141 #[.int .i64 F, .int .i64 64, .bool s, .bool sat, .int .u64 a] w (.tuple #[.int .u64 (((if neg then y else q) % 18446744073709551616 : Nat) : Int), .int .i64 0]) := by
  have HI := fun W => hid (integerOf_64 s W)
  have HN := fun W => hid (iknown_64 s W)
  have hB : Below w.heap.size w w := Below.refl _ _
  have HBD := fun W => hid (bound_64 s neg W)
  generalize bnd 64 s neg = b at *
  have hd1 : decide ((b : Int) < (q : Int)) = false := decide_eq_false (by omega)
  have hd2 : decide (b < q) = false := decide_eq_false (by omega)
  cases neg
  · have HC := fun W => hid (icut_64 s q hq64 W)
    rw [if_neg (by decide)]
    obtain ⟨c, hc⟩ : ∃ c : Nat, c = q % 18446744073709551616 := ⟨_, rfl⟩
    rw [← hc] at HC ⊢
    clear hc hq hq64 hy64 hy
    go_enter Tryz.func141, Tryz.ntmps141
    go_wp2_with (first
      | (go_at_call 203; ((with_reducible refine (HI _).out.mono ?_); rintro e w1 ⟨rfl, hb⟩; replace hB := bnext hB hb; clear hb))
      | (go_at_call 204; ((with_reducible refine (HK _).out.mono ?_); rintro e w2 ⟨rfl, hb⟩; replace hB := bnext hB hb; clear hb))
      | (go_at_call 205; ((with_reducible refine (HN _).out.mono ?_); rintro e w3 ⟨rfl, hb⟩; have hS := (Si.new 64 s hB).call hb; obtain ⟨c0, c1⟩ := id hS.1; clear hb hB))
      | (go_at_call 206; ((with_reducible refine (HP _).out.mono ?_); rintro e w4 ⟨rfl, hb⟩; replace hS := hS.call hb; clear c0 c1 hb; obtain ⟨c0, c1⟩ := id hS.1))
      | (go_at_call 207; ((with_reducible refine (HW _).out.mono ?_); rintro e w4 ⟨rfl, hb⟩; replace hS := hS.call hb; clear c0 c1 hb; obtain ⟨c0, c1⟩ := id hS.1))
      | (go_at_call 208; ((with_reducible refine (HBD _).out.mono ?_); rintro e w4 ⟨rfl, hb⟩; replace hS := hS.call hb; clear c0 c1 hb; obtain ⟨c0, c1⟩ := id hS.1))
      | (go_at_call 209; ((with_reducible refine (HC _).out.mono ?_); rintro e w4 ⟨rfl, hb⟩; replace hS := hS.call hb; clear c0 c1 hb; obtain ⟨c0, c1⟩ := id hS.1)))
    exact bodyPost_ret (v := .tuple #[.int .u64 (c : Int), .int .i64 0]) (by simp [results, Tryz.results141, go_sem]) rfl ⟨rfl, hS.2.2⟩
  · have HC := fun W => hid (icut_64 s y hy64 W)
    rw [if_pos rfl]
    obtain ⟨c, hc⟩ : ∃ c : Nat, c = y % 18446744073709551616 := ⟨_, rfl⟩
    rw [← hc] at HC ⊢
    clear hc hq hq64 hy64
    go_enter Tryz.func141, Tryz.ntmps141
    go_wp2_with (first
      | (go_at_call 203; ((with_reducible refine (HI _).out.mono ?_); rintro e w1 ⟨rfl, hb⟩; replace hB := bnext hB hb; clear hb))
      | (go_at_call 204; ((with_reducible refine (HK _).out.mono ?_); rintro e w2 ⟨rfl, hb⟩; replace hB := bnext hB hb; clear hb))
      | (go_at_call 205; ((with_reducible refine (HN _).out.mono ?_); rintro e w3 ⟨rfl, hb⟩; have hS := (Si.new 64 s hB).call hb; obtain ⟨c0, c1⟩ := id hS.1; clear hb hB))
      | (go_at_call 206; ((with_reducible refine (HP _).out.mono ?_); rintro e w4 ⟨rfl, hb⟩; replace hS := hS.call hb; clear c0 c1 hb; obtain ⟨c0, c1⟩ := id hS.1))
      | (go_at_call 207; ((with_reducible refine (HW _).out.mono ?_); rintro e w4 ⟨rfl, hb⟩; replace hS := hS.call hb; clear c0 c1 hb; obtain ⟨c0, c1⟩ := id hS.1))
      | (go_at_call 208; ((with_reducible refine (HBD _).out.mono ?_); rintro e w4 ⟨rfl, hb⟩; replace hS := hS.call hb; clear c0 c1 hb; obtain ⟨c0, c1⟩ := id hS.1))
      | (go_at_call 209; ((with_reducible refine (HC _).out.mono ?_); rintro e w4 ⟨rfl, hb⟩; replace hS := hS.call hb; clear c0 c1 hb; obtain ⟨c0, c1⟩ := id hS.1)))
    exact bodyPost_ret (v := .tuple #[.int .u64 (c : Int), .int .i64 0]) (by simp [results, Tryz.results141, go_sem]) rfl ⟨rfl, hS.2.2⟩

theorem Trunc_64_over (F : Int) (s neg f : Bool) (a k m q : Nat) (e : Int) (hk0 : ((k : Int) == 0) = false) (hk4 : ((k : Int) == 4) = false) (HK : ∀ W, Hid (Say 204 #[.int .i64 F, .int .u64 a] W (.int .i64 (k : Int))))
    (HP : ∀ W, Hid (Say 206 #[.int .i64 F, .int .u64 a] W (.tuple #[.bool neg, .int .u64 (m : Int), .int .i64 e])))
    (HW : ∀ W, Hid (Say 207 #[.int .u64 (m : Int), .int .i64 e] W (.tuple #[.int .u64 (q : Int), .bool f])))
    (hq : f = false ∨ bnd 64 s neg < q) (w : World) :
    Say 141 #[.int .i64 F, .int .i64 64, .bool s, .bool false, .int .u64 a] w (.tuple #[.int .u64 0, .int .i64 42]) := by
  have HI := fun W => hid (integerOf_64 s W)
  have HN := fun W => hid (iknown_64 s W)
  have hB : Below w.heap.size w w := Below.refl _ _
  have HBD := fun W => hid (bound_64 s neg W)
  generalize bnd 64 s neg = b at *
  cases f
  · clear hq
    go_enter Tryz.func141, Tryz.ntmps141
    go_wp2_with (first
      | (go_at_call 203; ((with_reducible refine (HI _).out.mono ?_); rintro e w1 ⟨rfl, hb⟩; replace hB := bnext hB hb; clear hb))
      | (go_at_call 204; ((with_reducible refine (HK _).out.mono ?_); rintro e w2 ⟨rfl, hb⟩; replace hB := bnext hB hb; clear hb))
      | (go_at_call 205; ((with_reducible refine (HN _).out.mono ?_); rintro e w3 ⟨rfl, hb⟩; have hS := (Si.new 64 s hB).call hb; obtain ⟨c0, c1⟩ := id hS.1; clear hb hB))
      | (go_at_call 206; ((with_reducible refine (HP _).out.mono ?_); rintro e w4 ⟨rfl, hb⟩; replace hS := hS.call hb; clear c0 c1 hb; obtain ⟨c0, c1⟩ := id hS.1))
      | (go_at_call 207; ((with_reducible refine (HW _).out.mono ?_); rintro e w4 ⟨rfl, hb⟩; replace hS := hS.call hb; clear c0 c1 hb; obtain ⟨c0, c1⟩ := id hS.1))
      | (go_at_call 208; ((with_reducible refine (HBD _).out.mono ?_); rintro e w4 ⟨rfl, hb⟩; replace hS := hS.call hb; clear c0 c1 hb; obtain ⟨c0, c1⟩ := id hS.1)))
    exact bodyPost_ret (v := .tuple #[.int .u64 0, .int .i64 42]) (by simp [results, Tryz.results141, go_sem]) rfl ⟨rfl, hS.2.2⟩
  · have hq2 : b < q := by rcases hq with h | h; cases h; exact h
    have hd1 : decide ((b : Int) < (q : Int)) = true := decide_eq_true (by omega)
    have hd2 : decide (b < q) = true := decide_eq_true hq2
    clear hq hq2
    go_enter Tryz.func141, Tryz.ntmps141
    go_wp2_with (first
      | (go_at_call 203; ((with_reducible refine (HI _).out.mono ?_); rintro e w1 ⟨rfl, hb⟩; replace hB := bnext hB hb; clear hb))
      | (go_at_call 204; ((with_reducible refine (HK _).out.mono ?_); rintro e w2 ⟨rfl, hb⟩; replace hB := bnext hB hb; clear hb))
      | (go_at_call 205; ((with_reducible refine (HN _).out.mono ?_); rintro e w3 ⟨rfl, hb⟩; have hS := (Si.new 64 s hB).call hb; obtain ⟨c0, c1⟩ := id hS.1; clear hb hB))
      | (go_at_call 206; ((with_reducible refine (HP _).out.mono ?_); rintro e w4 ⟨rfl, hb⟩; replace hS := hS.call hb; clear c0 c1 hb; obtain ⟨c0, c1⟩ := id hS.1))
      | (go_at_call 207; ((with_reducible refine (HW _).out.mono ?_); rintro e w4 ⟨rfl, hb⟩; replace hS := hS.call hb; clear c0 c1 hb; obtain ⟨c0, c1⟩ := id hS.1))
      | (go_at_call 208; ((with_reducible refine (HBD _).out.mono ?_); rintro e w4 ⟨rfl, hb⟩; replace hS := hS.call hb; clear c0 c1 hb; obtain ⟨c0, c1⟩ := id hS.1)))
    exact bodyPost_ret (v := .tuple #[.int .u64 0, .int .i64 42]) (by simp [results, Tryz.results141, go_sem]) rfl ⟨rfl, hS.2.2⟩

theorem Trunc_64_held (F : Int) (s neg f : Bool) (a k m q y : Nat) (e : Int) (hk0 : ((k : Int) == 0) = false) (hk4 : ((k : Int) == 4) = false) (HK : ∀ W, Hid (Say 204 #[.int .i64 F, .int .u64 a] W (.int .i64 (k : Int))))
    (HP : ∀ W, Hid (Say 206 #[.int .i64 F, .int .u64 a] W (.tuple #[.bool neg, .int .u64 (m : Int), .int .i64 e])))
    (HW : ∀ W, Hid (Say 207 #[.int .u64 (m : Int), .int .i64 e] W (.tuple #[.int .u64 (q : Int), .bool f])))
    (hq : f = false ∨ bnd 64 s neg < q) (hy : IntKind.u64.wrap (-((bnd 64 s neg : Nat) : Int)) = (y : Int)) (hb64 : bnd 64 s neg < 18446744073709551616) (hy64 : y < 18446744073709551616) (w : World) :
    Say 141 #[.int .i64 F, .int .i64 64, .bool s, .bool true, .int .u64 a] w (.tuple #[.int .u64 (((if neg then y else bnd 64 s neg) % 18446744073709551616 : Nat) : Int), .int .i64 0]) := by
  have HI := fun W => hid (integerOf_64 s W)
  have HN := fun W => hid (iknown_64 s W)
  have hB : Below w.heap.size w w := Below.refl _ _
  have HBD := fun W => hid (bound_64 s neg W)
  generalize bnd 64 s neg = b at *
  obtain ⟨x, hx, hx64⟩ : ∃ x : Nat, x = (if neg then y else b) ∧ x < 18446744073709551616 := ⟨_, rfl, by cases neg <;> simp <;> assumption⟩
  have HC := fun W => hid (icut_64 s x hx64 W)
  rw [← hx]
  obtain ⟨c, hc⟩ : ∃ c : Nat, c = x % 18446744073709551616 := ⟨_, rfl⟩
  rw [← hc] at HC ⊢
  clear hc hx64 hb64 hy64
  cases f
  · clear hq
    cases neg
    · rw [if_neg (by decide)] at hx
      subst hx
      clear hy
      go_enter Tryz.func141, Tryz.ntmps141
      go_wp2_with (first
        | (go_at_call 203; ((with_reducible refine (HI _).out.mono ?_); rintro e w1 ⟨rfl, hb⟩; replace hB := bnext hB hb; clear hb))
        | (go_at_call 204; ((with_reducible refine (HK _).out.mono ?_); rintro e w2 ⟨rfl, hb⟩; replace hB := bnext hB hb; clear hb))
        | (go_at_call 205; ((with_reducible refine (HN _).out.mono ?_); rintro e w3 ⟨rfl, hb⟩; have hS := (Si.new 64 s hB).call hb; obtain ⟨c0, c1⟩ := id hS.1; clear hb hB))
        | (go_at_call 206; ((with_reducible refine (HP _).out.mono ?_); rintro e w4 ⟨rfl, hb⟩; replace hS := hS.call hb; clear c0 c1 hb; obtain ⟨c0, c1⟩ := id hS.1))
        | (go_at_call 207; ((with_reducible refine (HW _).out.mono ?_); rintro e w4 ⟨rfl, hb⟩; replace hS := hS.call hb; clear c0 c1 hb; obtain ⟨c0, c1⟩ := id hS.1))
        | (go_at_call 208; ((with_reducible refine (HBD _).out.mono ?_); rintro e w4 ⟨rfl, hb⟩; replace hS := hS.call hb; clear c0 c1 hb; obtain ⟨c0, c1⟩ := id hS.1))
        | (go_at_call 209; ((with_reducible refine (HC _).out.mono ?_); rintro e w4 ⟨rfl, hb⟩; replace hS := hS.call hb; clear c0 c1 hb; obtain ⟨c0, c1⟩ := id hS.1)))
      exact bodyPost_ret (v := .tuple #[.int .u64 (c : Int), .int .i64 0]) (by simp [results, Tryz.results141, go_sem]) rfl ⟨rfl, hS.2.2⟩
    · rw [if_pos rfl] at hx
      subst hx
      go_enter Tryz.func141, Tryz.ntmps141
      go_wp2_with (first
        | (go_at_call 203; ((with_reducible refine (HI _).out.mono ?_); rintro e w1 ⟨rfl, hb⟩; replace hB := bnext hB hb; clear hb))
        | (go_at_call 204; ((with_reducible refine (HK _).out.mono ?_); rintro e w2 ⟨rfl, hb⟩; replace hB := bnext hB hb; clear hb))
        | (go_at_call 205; ((with_reducible refine (HN _).out.mono ?_); rintro e w3 ⟨rfl, hb⟩; have hS := (Si.new 64 s hB).call hb; obtain ⟨c0, c1⟩ := id hS.1; clear hb hB))
        | (go_at_call 206; ((with_reducible refine (HP _).out.mono ?_); rintro e w4 ⟨rfl, hb⟩; replace hS := hS.call hb; clear c0 c1 hb; obtain ⟨c0, c1⟩ := id hS.1))
        | (go_at_call 207; ((with_reducible refine (HW _).out.mono ?_); rintro e w4 ⟨rfl, hb⟩; replace hS := hS.call hb; clear c0 c1 hb; obtain ⟨c0, c1⟩ := id hS.1))
        | (go_at_call 208; ((with_reducible refine (HBD _).out.mono ?_); rintro e w4 ⟨rfl, hb⟩; replace hS := hS.call hb; clear c0 c1 hb; obtain ⟨c0, c1⟩ := id hS.1))
        | (go_at_call 209; ((with_reducible refine (HC _).out.mono ?_); rintro e w4 ⟨rfl, hb⟩; replace hS := hS.call hb; clear c0 c1 hb; obtain ⟨c0, c1⟩ := id hS.1)))
      exact bodyPost_ret (v := .tuple #[.int .u64 (c : Int), .int .i64 0]) (by simp [results, Tryz.results141, go_sem]) rfl ⟨rfl, hS.2.2⟩
  · have hq2 : b < q := by rcases hq with h | h; cases h; exact h
    have hd1 : decide ((b : Int) < (q : Int)) = true := decide_eq_true (by omega)
    have hd2 : decide (b < q) = true := decide_eq_true hq2
    clear hq hq2
    cases neg
    · rw [if_neg (by decide)] at hx
      subst hx
      clear hy
      go_enter Tryz.func141, Tryz.ntmps141
      go_wp2_with (first
        | (go_at_call 203; ((with_reducible refine (HI _).out.mono ?_); rintro e w1 ⟨rfl, hb⟩; replace hB := bnext hB hb; clear hb))
        | (go_at_call 204; ((with_reducible refine (HK _).out.mono ?_); rintro e w2 ⟨rfl, hb⟩; replace hB := bnext hB hb; clear hb))
        | (go_at_call 205; ((with_reducible refine (HN _).out.mono ?_); rintro e w3 ⟨rfl, hb⟩; have hS := (Si.new 64 s hB).call hb; obtain ⟨c0, c1⟩ := id hS.1; clear hb hB))
        | (go_at_call 206; ((with_reducible refine (HP _).out.mono ?_); rintro e w4 ⟨rfl, hb⟩; replace hS := hS.call hb; clear c0 c1 hb; obtain ⟨c0, c1⟩ := id hS.1))
        | (go_at_call 207; ((with_reducible refine (HW _).out.mono ?_); rintro e w4 ⟨rfl, hb⟩; replace hS := hS.call hb; clear c0 c1 hb; obtain ⟨c0, c1⟩ := id hS.1))
        | (go_at_call 208; ((with_reducible refine (HBD _).out.mono ?_); rintro e w4 ⟨rfl, hb⟩; replace hS := hS.call hb; clear c0 c1 hb; obtain ⟨c0, c1⟩ := id hS.1))
        | (go_at_call 209; ((with_reducible refine (HC _).out.mono ?_); rintro e w4 ⟨rfl, hb⟩; replace hS := hS.call hb; clear c0 c1 hb; obtain ⟨c0, c1⟩ := id hS.1)))
      exact bodyPost_ret (v := .tuple #[.int .u64 (c : Int), .int .i64 0]) (by simp [results, Tryz.results141, go_sem]) rfl ⟨rfl, hS.2.2⟩
    · rw [if_pos rfl] at hx
      subst hx
      go_enter Tryz.func141, Tryz.ntmps141
      go_wp2_with (first
        | (go_at_call 203; ((with_reducible refine (HI _).out.mono ?_); rintro e w1 ⟨rfl, hb⟩; replace hB := bnext hB hb; clear hb))
        | (go_at_call 204; ((with_reducible refine (HK _).out.mono ?_); rintro e w2 ⟨rfl, hb⟩; replace hB := bnext hB hb; clear hb))
        | (go_at_call 205; ((with_reducible refine (HN _).out.mono ?_); rintro e w3 ⟨rfl, hb⟩; have hS := (Si.new 64 s hB).call hb; obtain ⟨c0, c1⟩ := id hS.1; clear hb hB))
        | (go_at_call 206; ((with_reducible refine (HP _).out.mono ?_); rintro e w4 ⟨rfl, hb⟩; replace hS := hS.call hb; clear c0 c1 hb; obtain ⟨c0, c1⟩ := id hS.1))
        | (go_at_call 207; ((with_reducible refine (HW _).out.mono ?_); rintro e w4 ⟨rfl, hb⟩; replace hS := hS.call hb; clear c0 c1 hb; obtain ⟨c0, c1⟩ := id hS.1))
        | (go_at_call 208; ((with_reducible refine (HBD _).out.mono ?_); rintro e w4 ⟨rfl, hb⟩; replace hS := hS.call hb; clear c0 c1 hb; obtain ⟨c0, c1⟩ := id hS.1))
        | (go_at_call 209; ((with_reducible refine (HC _).out.mono ?_); rintro e w4 ⟨rfl, hb⟩; replace hS := hS.call hb; clear c0 c1 hb; obtain ⟨c0, c1⟩ := id hS.1)))
      exact bodyPost_ret (v := .tuple #[.int .u64 (c : Int), .int .i64 0]) (by simp [results, Tryz.results141, go_sem]) rfl ⟨rfl, hS.2.2⟩

end Go.Proofs.YtlhakbkdlgejpaaGreatDoor.Fl
