/-
  The contracts of what shape asks of single numbers and of one instruction. No condition.
-/
import Derived.Test.YteianbgampljeaaGreatEvery
set_option linter.unusedSimpArgs false
set_option linter.unusedVariables false
set_option maxRecDepth 100000
namespace Go.Proofs.YteianbgampljeaaGreat
open Go.RowKit

def idxB (a : Int) : Bool := decide (IntKind.u64.wrap a ≤ 4294967295)
def refB (a : Int) : Bool := a == 112 || a == 111
def valB (a : Int) : Bool := a == 127 || a == 126 || a == 125 || a == 124 || a == 123 || refB a
def byteB (a : Int) : Bool := decide (0 ≤ a) && decide (a ≤ 255)
theorem isIndex_says (a : Int) (w : World) : Calls Tryz.prog 95 #[.int .i64 a] w fun e w' => e = .returned (.bool (idxB a)) ∧ w = w' := by
  unfold idxB
  go_enter Tryz.func95, Tryz.ntmps95
  go_wp2
  go_ret
  exact ⟨rfl, rfl⟩
theorem isStart_says (a : Int) (w : World) : Calls Tryz.prog 36 #[.int .i64 a] w fun e w' => e = .returned (.bool (decide (IntKind.u64.wrap a ≤ 4294967296))) ∧ w = w' := by
  go_enter Tryz.func36, Tryz.ntmps36
  go_wp2
  go_ret
  exact ⟨rfl, rfl⟩
theorem isRef_says (a : Int) (w : World) : Calls Tryz.prog 99 #[.int .i64 a] w fun e w' => e = .returned (.bool (refB a)) ∧ w = w' := by
  unfold refB
  obtain ⟨b1, d1⟩ : ∃ b, (a == 112) = b := ⟨_, rfl⟩
  rw [d1]
  cases b1
  all_goals
    go_enter Tryz.func99, Tryz.ntmps99
    go_wp2
    go_ret
    exact ⟨rfl, rfl⟩
theorem isByte_says (a : Int) (w : World) : Calls Tryz.prog 136 #[.int .i64 a] w fun e w' => e = .returned (.bool (byteB a)) ∧ w = w' := by
  unfold byteB
  obtain ⟨b1, d1⟩ : ∃ b, decide (0 ≤ a) = b := ⟨_, rfl⟩
  rw [d1]
  cases b1
  all_goals
    go_enter Tryz.func136, Tryz.ntmps136
    go_wp2
    go_ret
    exact ⟨rfl, rfl⟩
theorem isVal_says (a : Int) (w : World) : Calls Tryz.prog 94 #[.int .i64 a] w fun e w' => e = .returned (.bool (valB a)) ∧ w = w' := by
  have HR := fun W => hid (isRef_says a W)
  unfold valB
  generalize refB a = r at *
  obtain ⟨b1, d1⟩ : ∃ b, (a == 127) = b := ⟨_, rfl⟩
  obtain ⟨b2, d2⟩ : ∃ b, (a == 126) = b := ⟨_, rfl⟩
  obtain ⟨b3, d3⟩ : ∃ b, (a == 125) = b := ⟨_, rfl⟩
  obtain ⟨b4, d4⟩ : ∃ b, (a == 124) = b := ⟨_, rfl⟩
  obtain ⟨b5, d5⟩ : ∃ b, (a == 123) = b := ⟨_, rfl⟩
  rw [d1, d2, d3, d4, d5]
  rcases (show b1 = true ∨ (b1 = false ∧ b2 = true) ∨ (b1 = false ∧ b2 = false ∧ b3 = true) ∨ (b1 = false ∧ b2 = false ∧ b3 = false ∧ b4 = true) ∨ (b1 = false ∧ b2 = false ∧ b3 = false ∧ b4 = false ∧ b5 = true) ∨ (b1 = false ∧ b2 = false ∧ b3 = false ∧ b4 = false ∧ b5 = false) by cases b1 <;> cases b2 <;> cases b3 <;> cases b4 <;> cases b5 <;> simp) with rfl | ⟨rfl, rfl⟩ | ⟨rfl, rfl, rfl⟩ | ⟨rfl, rfl, rfl, rfl⟩ | ⟨rfl, rfl, rfl, rfl, rfl⟩ | ⟨rfl, rfl, rfl, rfl, rfl⟩
  all_goals
    go_enter Tryz.func94, Tryz.ntmps94
    go_wp2_with (go_at_call 99; (with_reducible refine (HR _).out.mono ?_); rintro e w1 ⟨rfl, rfl⟩)
    go_ret
    exact ⟨by simp, rfl⟩

set_option maxHeartbeats 2000000 in
/-- all of a list of integers. -/
theorem all_int (k : Nat) (eg : ∀ args w, (callFunc k args).run Tryz.prog w = .ok (.enter k args) w) (P : Int → Bool) (hP : ∀ x W, Calls Tryz.prog k #[.int .i64 x] W fun e w' => e = .returned (.bool (P x)) ∧ W = w')
    (l : List Int) (v : Value) (B : Nat) (w : World) (hl : LI B w v l) (hB : B ≤ w.heap.size) (hn : l.length < 9223372036854775807) : Calls Tryz.prog 93 #[v, .func (.func k) #[] #[]] w fun e w' => e = .returned (.bool (l.all P)) ∧ w = w' := by
  obtain ⟨p, c, rfl, _, hc⟩ := hl
  have HP := fun x W => hid (hP x W)
  obtain ⟨r, hr⟩ : ∃ r, r = l.all P := ⟨_, rfl⟩
  rw [← hr]
  obtain ⟨n, hnn⟩ : ∃ n, n = l.length := ⟨_, rfl⟩
  rw [← hnn] at hn ⊢
  have HR := hid hr
  have HC := hid hc
  have HN := hid hnn
  have hn' : (n : Int) < 9223372036854775807 := by omega
  clear hP hr hc hnn hn
  go_enter Tryz.func93, Tryz.ntmps93
  go_wp2
  go_loop [9] (fun vi => ∃ i : Nat, i ≤ n ∧ vi = .int .i64 i ∧ Hid (r = (l.drop i).all P)) (fun vi => n - (intOf vi).toNat)
  case atStart => exact ⟨0, Nat.zero_le _, rfl, by (have := HR.out; show r = _; simpa using this)⟩
  case round =>
    obtain ⟨i, hi, rfl, HI⟩ := hrel
    by_cases hlt : i < n
    · have hll : i < l.length := by rw [← HN.out]; exact hlt
      obtain ⟨g, o, rfl, hg, hx⟩ := HC.out (fun e => by rw [e] at hll; simp at hll)
      have hd := List.drop_eq_getElem_cons hll
      obtain ⟨x, hxe⟩ : ∃ x, x = l[i] := ⟨_, rfl⟩
      have x0 := hx i x (by rw [hxe]; simp [List.getElem?_eq_getElem hll])
      have HE : Hid (r = (P x && (l.drop (i + 1)).all P)) := by have := HI.out; rw [hd, ← hxe] at this; (show r = _); simpa using this
      have HPX := fun W => HP x W
      clear hx hd hxe hll
      rcases hpx : P x with _ | _
      · rw [hpx] at HPX HE
        clear hpx
        go_wp2_with (go_at_fn k; (with_reducible refine (HPX _).out.mono ?_); rintro e w1 ⟨rfl, rfl⟩)
        go_ret
        exact ⟨by rw [HE.out]; rfl, rfl⟩
      · rw [hpx] at HPX HE
        clear hpx
        go_wp2_with (go_at_fn k; (with_reducible refine (HPX _).out.mono ?_); rintro e w1 ⟨rfl, rfl⟩)
        go_round
        case rel => exact ⟨i + 1, hlt, by go_num, by (have := HE.out; show r = _; simpa using this)⟩
        case measure => simp [intOf]; omega
    · obtain rfl : i = n := by omega
      have HE : Hid (r = true) := by have := HI.out; rw [List.drop_of_length_le (by rw [← HN.out]; exact Nat.le_refl _)] at this; exact this
      go_wp2
      go_ret
      exact ⟨by rw [HE.out]; rfl, rfl⟩

/-- Are all fields unused? -/
def unB (a b : Int) (n h : Nat) (ot : Bool) (nl nb ne : Nat) : Bool := (a == 0) && (b == 0) && ((n : Int) == 0) && ((h : Int) == 0) && !ot && ((nl : Int) == 0) && ((nb : Int) == 0) && ((ne : Int) == 0)
set_option maxHeartbeats 4000000 in
theorem isUnused_says (op a b : Int) (n h : Nat) (pl pb pe : Option Addr) (nl cl nb cb ne ce : Nat) (ot : Bool) (w : World) : Calls Tryz.prog 137 #[.agg #[.int .i64 op, .int .i64 a, .int .i64 b, .int .u64 (n : Nat), .int .u64 (h : Nat), .slice pl nl cl, .slice pb nb cb, .slice pe ne ce, .bool ot]] w fun e w' => e = .returned (.bool (unB a b n h ot nl nb ne)) ∧ Below w.heap.size w w' := by
  unfold unB
  obtain ⟨b1, d1⟩ : ∃ x, (a == 0) = x := ⟨_, rfl⟩
  obtain ⟨b2, d2⟩ : ∃ x, (b == 0) = x := ⟨_, rfl⟩
  obtain ⟨b3, d3⟩ : ∃ x, ((n : Int) == 0) = x := ⟨_, rfl⟩
  obtain ⟨b4, d4⟩ : ∃ x, ((h : Int) == 0) = x := ⟨_, rfl⟩
  obtain ⟨b6, d6⟩ : ∃ x, ((nl : Int) == 0) = x := ⟨_, rfl⟩
  obtain ⟨b7, d7⟩ : ∃ x, ((nb : Int) == 0) = x := ⟨_, rfl⟩
  obtain ⟨b8, d8⟩ : ∃ x, ((ne : Int) == 0) = x := ⟨_, rfl⟩
  rw [d1, d2, d3, d4, d6, d7, d8]
  cases b1 with
  | false =>
    go_enter Tryz.func137, Tryz.ntmps137
    go_wp2
    go_ret
    exact ⟨by simp, (Below.refl _ _).alloc (Nat.le_refl _) _⟩
  | true =>
    cases b2 with
    | false =>
      go_enter Tryz.func137, Tryz.ntmps137
      go_wp2
      go_ret
      exact ⟨by simp, (Below.refl _ _).alloc (Nat.le_refl _) _⟩
    | true =>
      cases b3 with
      | false =>
        go_enter Tryz.func137, Tryz.ntmps137
        go_wp2
        go_ret
        exact ⟨by simp, (Below.refl _ _).alloc (Nat.le_refl _) _⟩
      | true =>
        cases b4 with
        | false =>
          go_enter Tryz.func137, Tryz.ntmps137
          go_wp2
          go_ret
          exact ⟨by simp, (Below.refl _ _).alloc (Nat.le_refl _) _⟩
        | true =>
          cases ot with
          | true =>
            go_enter Tryz.func137, Tryz.ntmps137
            go_wp2
            go_ret
            exact ⟨by simp, (Below.refl _ _).alloc (Nat.le_refl _) _⟩
          | false =>
            cases b6 with
            | false =>
              go_enter Tryz.func137, Tryz.ntmps137
              go_wp2
              go_ret
              exact ⟨by simp, (Below.refl _ _).alloc (Nat.le_refl _) _⟩
            | true =>
              cases b7 with
              | false =>
                go_enter Tryz.func137, Tryz.ntmps137
                go_wp2
                go_ret
                exact ⟨by simp, (Below.refl _ _).alloc (Nat.le_refl _) _⟩
              | true =>
                go_enter Tryz.func137, Tryz.ntmps137
                go_wp2
                go_ret
                exact ⟨by simp, (Below.refl _ _).alloc (Nat.le_refl _) _⟩
end Go.Proofs.YteianbgampljeaaGreat
