/-
  LSw: merged, what the law does not reach left out (each text says what it holds where it lies in wip). No condition.
-/
import Derived.Test.YtlhakbkdlgejpaaGreatDoorH03
import Derived.Test.YtlhakbkdlgejpaaGreatDoorH01
set_option linter.unusedSimpArgs false
set_option linter.unusedVariables false
set_option maxRecDepth 100000
namespace Go.Proofs.YtlhakbkdlgejpaaGreatDoor
open Go.RowKit
/-- The first line of a text's. -/
def swL : List (List UInt8 × Int) → List UInt8 → Int
  | [], _ => 0
  | (l, r) :: t, v => if (v == l) = true then r else swL t v
/-- What a name tells: the verb, the lanes that are read, those that are made, with a sign or not. -/
def insV (vb : List UInt8) (ff : Bool) (fb : Int) (tf : Bool) (tb : Int) (sg : Bool) : Value := .agg #[.string (str vb), .bool ff, .int .i64 fb, .bool tf, .int .i64 tb, .bool sg]
def ei (sg : Bool) (a b : Int) : Int := if sg then a else b
def FU : List (List UInt8 × Int) := [([97, 98, 115], 1), ([110, 101, 103], 2), ([115, 113, 114, 116], 3), ([99, 101, 105, 108], 4), ([102, 108, 111, 111, 114], 5), ([116, 114, 117, 110, 99], 6), ([110, 101, 97, 114, 101, 115, 116], 7)]
def FR : List (List UInt8 × Int) := [([101, 113], 1), ([110, 101], 2), ([108, 116], 3), ([103, 116], 4), ([108, 101], 5), ([103, 101], 6)]
def FB : List (List UInt8 × Int) := [([97, 100, 100], 1), ([115, 117, 98], 2), ([109, 117, 108], 3), ([100, 105, 118], 4), ([109, 105, 110], 5), ([109, 97, 120], 6), ([112, 109, 105, 110], 8), ([112, 109, 97, 120], 9)]
def IU : List (List UInt8 × Int) := [([97, 98, 115], 7), ([110, 101, 103], 8), ([112, 111, 112, 99, 110, 116], 3)]
def IR (sg : Bool) : List (List UInt8 × Int) := [([101, 113], 1), ([110, 101], 2), ([108, 116], (ei sg 3 4)), ([103, 116], (ei sg 5 6)), ([108, 101], (ei sg 7 8)), ([103, 101], (ei sg 9 10))]
def IB (sg : Bool) : List (List UInt8 × Int) := [([97, 110, 100], 8), ([111, 114], 9), ([120, 111, 114], 10), ([115, 104, 108], 11), ([115, 104, 114], (ei sg 12 13)), ([97, 100, 100], 1), ([115, 117, 98], 2), ([109, 117, 108], 3), ([109, 105, 110], (ei sg 20 21)), ([109, 97, 120], (ei sg 22 23)), ([97, 100, 100, 95, 115, 97, 116], (ei sg 16 17)), ([115, 117, 98, 95, 115, 97, 116], (ei sg 18 19)), ([97, 118, 103, 114], 24), ([113, 49, 53, 109, 117, 108, 114, 95, 115, 97, 116], 25)]
theorem either_says (vb : List UInt8) (ff : Bool) (fb : Int) (tf : Bool) (tb : Int) (sg : Bool) (a b : Int) (w : World) : Calls Tryz.prog 193 #[insV vb ff fb tf tb sg, .int .i64 a, .int .i64 b] w fun e w' => e = .returned (.int .i64 (ei sg a b)) ∧ Below w.heap.size w w' := by
  unfold insV
  generalize str vb = s
  cases sg
  all_goals
    go_enter Tryz.func193, Tryz.ntmps193
    go_wp2
    go_ret
    exact ⟨rfl, (Below.refl _ _).alloc (Nat.le_refl _) _⟩
set_option maxHeartbeats 2000000 in
theorem floatUnary_says (vb : List UInt8) (w : World) : Calls Tryz.prog 191 #[.string (str vb)] w fun e w' => e = .returned (.int .i64 (swL FU vb)) ∧ w = w' := by
  obtain ⟨s, hs⟩ : ∃ s, s = str vb := ⟨_, rfl⟩
  rw [← hs]
  cases h0 : (vb == [97, 98, 115]) with
  | true =>
    have q0 : (s.toList == [97, 98, 115]) = true := by rw [hs, str_list]; exact h0
    have hv : Hid (swL FU vb = 1) := by simp [Hid, FU, swL, h0]
    clear h0 hs
    go_enter Tryz.func191, Tryz.ntmps191
    go_wp2
    go_ret
    exact ⟨ret_int hv.out.symm, rfl⟩
  | false =>
    cases h1 : (vb == [110, 101, 103]) with
    | true =>
      have q0 : (s.toList == [97, 98, 115]) = false := by rw [hs, str_list]; exact h0
      have q1 : (s.toList == [110, 101, 103]) = true := by rw [hs, str_list]; exact h1
      have hv : Hid (swL FU vb = 2) := by simp [Hid, FU, swL, h0, h1]
      clear h0 h1 hs
      go_enter Tryz.func191, Tryz.ntmps191
      go_wp2
      go_ret
      exact ⟨ret_int hv.out.symm, rfl⟩
    | false =>
      cases h2 : (vb == [115, 113, 114, 116]) with
      | true =>
        have q0 : (s.toList == [97, 98, 115]) = false := by rw [hs, str_list]; exact h0
        have q1 : (s.toList == [110, 101, 103]) = false := by rw [hs, str_list]; exact h1
        have q2 : (s.toList == [115, 113, 114, 116]) = true := by rw [hs, str_list]; exact h2
        have hv : Hid (swL FU vb = 3) := by simp [Hid, FU, swL, h0, h1, h2]
        clear h0 h1 h2 hs
        go_enter Tryz.func191, Tryz.ntmps191
        go_wp2
        go_ret
        exact ⟨ret_int hv.out.symm, rfl⟩
      | false =>
        cases h3 : (vb == [99, 101, 105, 108]) with
        | true =>
          have q0 : (s.toList == [97, 98, 115]) = false := by rw [hs, str_list]; exact h0
          have q1 : (s.toList == [110, 101, 103]) = false := by rw [hs, str_list]; exact h1
          have q2 : (s.toList == [115, 113, 114, 116]) = false := by rw [hs, str_list]; exact h2
          have q3 : (s.toList == [99, 101, 105, 108]) = true := by rw [hs, str_list]; exact h3
          have hv : Hid (swL FU vb = 4) := by simp [Hid, FU, swL, h0, h1, h2, h3]
          clear h0 h1 h2 h3 hs
          go_enter Tryz.func191, Tryz.ntmps191
          go_wp2
          go_ret
          exact ⟨ret_int hv.out.symm, rfl⟩
        | false =>
          cases h4 : (vb == [102, 108, 111, 111, 114]) with
          | true =>
            have q0 : (s.toList == [97, 98, 115]) = false := by rw [hs, str_list]; exact h0
            have q1 : (s.toList == [110, 101, 103]) = false := by rw [hs, str_list]; exact h1
            have q2 : (s.toList == [115, 113, 114, 116]) = false := by rw [hs, str_list]; exact h2
            have q3 : (s.toList == [99, 101, 105, 108]) = false := by rw [hs, str_list]; exact h3
            have q4 : (s.toList == [102, 108, 111, 111, 114]) = true := by rw [hs, str_list]; exact h4
            have hv : Hid (swL FU vb = 5) := by simp [Hid, FU, swL, h0, h1, h2, h3, h4]
            clear h0 h1 h2 h3 h4 hs
            go_enter Tryz.func191, Tryz.ntmps191
            go_wp2
            go_ret
            exact ⟨ret_int hv.out.symm, rfl⟩
          | false =>
            cases h5 : (vb == [116, 114, 117, 110, 99]) with
            | true =>
              have q0 : (s.toList == [97, 98, 115]) = false := by rw [hs, str_list]; exact h0
              have q1 : (s.toList == [110, 101, 103]) = false := by rw [hs, str_list]; exact h1
              have q2 : (s.toList == [115, 113, 114, 116]) = false := by rw [hs, str_list]; exact h2
              have q3 : (s.toList == [99, 101, 105, 108]) = false := by rw [hs, str_list]; exact h3
              have q4 : (s.toList == [102, 108, 111, 111, 114]) = false := by rw [hs, str_list]; exact h4
              have q5 : (s.toList == [116, 114, 117, 110, 99]) = true := by rw [hs, str_list]; exact h5
              have hv : Hid (swL FU vb = 6) := by simp [Hid, FU, swL, h0, h1, h2, h3, h4, h5]
              clear h0 h1 h2 h3 h4 h5 hs
              go_enter Tryz.func191, Tryz.ntmps191
              go_wp2
              go_ret
              exact ⟨ret_int hv.out.symm, rfl⟩
            | false =>
              cases h6 : (vb == [110, 101, 97, 114, 101, 115, 116]) with
              | true =>
                have q0 : (s.toList == [97, 98, 115]) = false := by rw [hs, str_list]; exact h0
                have q1 : (s.toList == [110, 101, 103]) = false := by rw [hs, str_list]; exact h1
                have q2 : (s.toList == [115, 113, 114, 116]) = false := by rw [hs, str_list]; exact h2
                have q3 : (s.toList == [99, 101, 105, 108]) = false := by rw [hs, str_list]; exact h3
                have q4 : (s.toList == [102, 108, 111, 111, 114]) = false := by rw [hs, str_list]; exact h4
                have q5 : (s.toList == [116, 114, 117, 110, 99]) = false := by rw [hs, str_list]; exact h5
                have q6 : (s.toList == [110, 101, 97, 114, 101, 115, 116]) = true := by rw [hs, str_list]; exact h6
                have hv : Hid (swL FU vb = 7) := by simp [Hid, FU, swL, h0, h1, h2, h3, h4, h5, h6]
                clear h0 h1 h2 h3 h4 h5 h6 hs
                go_enter Tryz.func191, Tryz.ntmps191
                go_wp2
                go_ret
                exact ⟨ret_int hv.out.symm, rfl⟩
              | false =>
                have q0 : (s.toList == [97, 98, 115]) = false := by rw [hs, str_list]; exact h0
                have q1 : (s.toList == [110, 101, 103]) = false := by rw [hs, str_list]; exact h1
                have q2 : (s.toList == [115, 113, 114, 116]) = false := by rw [hs, str_list]; exact h2
                have q3 : (s.toList == [99, 101, 105, 108]) = false := by rw [hs, str_list]; exact h3
                have q4 : (s.toList == [102, 108, 111, 111, 114]) = false := by rw [hs, str_list]; exact h4
                have q5 : (s.toList == [116, 114, 117, 110, 99]) = false := by rw [hs, str_list]; exact h5
                have q6 : (s.toList == [110, 101, 97, 114, 101, 115, 116]) = false := by rw [hs, str_list]; exact h6
                have hv : Hid (swL FU vb = 0) := by simp [Hid, FU, swL, h0, h1, h2, h3, h4, h5, h6]
                clear h0 h1 h2 h3 h4 h5 h6 hs
                go_enter Tryz.func191, Tryz.ntmps191
                go_wp2
                go_ret
                exact ⟨ret_int hv.out.symm, rfl⟩
set_option maxHeartbeats 2000000 in
theorem floatRelation_says (vb : List UInt8) (w : World) : Calls Tryz.prog 192 #[.string (str vb)] w fun e w' => e = .returned (.int .i64 (swL FR vb)) ∧ w = w' := by
  obtain ⟨s, hs⟩ : ∃ s, s = str vb := ⟨_, rfl⟩
  rw [← hs]
  cases h0 : (vb == [101, 113]) with
  | true =>
    have q0 : (s.toList == [101, 113]) = true := by rw [hs, str_list]; exact h0
    have hv : Hid (swL FR vb = 1) := by simp [Hid, FR, swL, h0]
    clear h0 hs
    go_enter Tryz.func192, Tryz.ntmps192
    go_wp2
    go_ret
    exact ⟨ret_int hv.out.symm, rfl⟩
  | false =>
    cases h1 : (vb == [110, 101]) with
    | true =>
      have q0 : (s.toList == [101, 113]) = false := by rw [hs, str_list]; exact h0
      have q1 : (s.toList == [110, 101]) = true := by rw [hs, str_list]; exact h1
      have hv : Hid (swL FR vb = 2) := by simp [Hid, FR, swL, h0, h1]
      clear h0 h1 hs
      go_enter Tryz.func192, Tryz.ntmps192
      go_wp2
      go_ret
      exact ⟨ret_int hv.out.symm, rfl⟩
    | false =>
      cases h2 : (vb == [108, 116]) with
      | true =>
        have q0 : (s.toList == [101, 113]) = false := by rw [hs, str_list]; exact h0
        have q1 : (s.toList == [110, 101]) = false := by rw [hs, str_list]; exact h1
        have q2 : (s.toList == [108, 116]) = true := by rw [hs, str_list]; exact h2
        have hv : Hid (swL FR vb = 3) := by simp [Hid, FR, swL, h0, h1, h2]
        clear h0 h1 h2 hs
        go_enter Tryz.func192, Tryz.ntmps192
        go_wp2
        go_ret
        exact ⟨ret_int hv.out.symm, rfl⟩
      | false =>
        cases h3 : (vb == [103, 116]) with
        | true =>
          have q0 : (s.toList == [101, 113]) = false := by rw [hs, str_list]; exact h0
          have q1 : (s.toList == [110, 101]) = false := by rw [hs, str_list]; exact h1
          have q2 : (s.toList == [108, 116]) = false := by rw [hs, str_list]; exact h2
          have q3 : (s.toList == [103, 116]) = true := by rw [hs, str_list]; exact h3
          have hv : Hid (swL FR vb = 4) := by simp [Hid, FR, swL, h0, h1, h2, h3]
          clear h0 h1 h2 h3 hs
          go_enter Tryz.func192, Tryz.ntmps192
          go_wp2
          go_ret
          exact ⟨ret_int hv.out.symm, rfl⟩
        | false =>
          cases h4 : (vb == [108, 101]) with
          | true =>
            have q0 : (s.toList == [101, 113]) = false := by rw [hs, str_list]; exact h0
            have q1 : (s.toList == [110, 101]) = false := by rw [hs, str_list]; exact h1
            have q2 : (s.toList == [108, 116]) = false := by rw [hs, str_list]; exact h2
            have q3 : (s.toList == [103, 116]) = false := by rw [hs, str_list]; exact h3
            have q4 : (s.toList == [108, 101]) = true := by rw [hs, str_list]; exact h4
            have hv : Hid (swL FR vb = 5) := by simp [Hid, FR, swL, h0, h1, h2, h3, h4]
            clear h0 h1 h2 h3 h4 hs
            go_enter Tryz.func192, Tryz.ntmps192
            go_wp2
            go_ret
            exact ⟨ret_int hv.out.symm, rfl⟩
          | false =>
            cases h5 : (vb == [103, 101]) with
            | true =>
              have q0 : (s.toList == [101, 113]) = false := by rw [hs, str_list]; exact h0
              have q1 : (s.toList == [110, 101]) = false := by rw [hs, str_list]; exact h1
              have q2 : (s.toList == [108, 116]) = false := by rw [hs, str_list]; exact h2
              have q3 : (s.toList == [103, 116]) = false := by rw [hs, str_list]; exact h3
              have q4 : (s.toList == [108, 101]) = false := by rw [hs, str_list]; exact h4
              have q5 : (s.toList == [103, 101]) = true := by rw [hs, str_list]; exact h5
              have hv : Hid (swL FR vb = 6) := by simp [Hid, FR, swL, h0, h1, h2, h3, h4, h5]
              clear h0 h1 h2 h3 h4 h5 hs
              go_enter Tryz.func192, Tryz.ntmps192
              go_wp2
              go_ret
              exact ⟨ret_int hv.out.symm, rfl⟩
            | false =>
              have q0 : (s.toList == [101, 113]) = false := by rw [hs, str_list]; exact h0
              have q1 : (s.toList == [110, 101]) = false := by rw [hs, str_list]; exact h1
              have q2 : (s.toList == [108, 116]) = false := by rw [hs, str_list]; exact h2
              have q3 : (s.toList == [103, 116]) = false := by rw [hs, str_list]; exact h3
              have q4 : (s.toList == [108, 101]) = false := by rw [hs, str_list]; exact h4
              have q5 : (s.toList == [103, 101]) = false := by rw [hs, str_list]; exact h5
              have hv : Hid (swL FR vb = 0) := by simp [Hid, FR, swL, h0, h1, h2, h3, h4, h5]
              clear h0 h1 h2 h3 h4 h5 hs
              go_enter Tryz.func192, Tryz.ntmps192
              go_wp2
              go_ret
              exact ⟨ret_int hv.out.symm, rfl⟩
set_option maxHeartbeats 2000000 in
theorem floatBinary_says (vb : List UInt8) (w : World) : Calls Tryz.prog 194 #[.string (str vb)] w fun e w' => e = .returned (.int .i64 (swL FB vb)) ∧ w = w' := by
  obtain ⟨s, hs⟩ : ∃ s, s = str vb := ⟨_, rfl⟩
  rw [← hs]
  cases h0 : (vb == [97, 100, 100]) with
  | true =>
    have q0 : (s.toList == [97, 100, 100]) = true := by rw [hs, str_list]; exact h0
    have hv : Hid (swL FB vb = 1) := by simp [Hid, FB, swL, h0]
    clear h0 hs
    go_enter Tryz.func194, Tryz.ntmps194
    go_wp2
    go_ret
    exact ⟨ret_int hv.out.symm, rfl⟩
  | false =>
    cases h1 : (vb == [115, 117, 98]) with
    | true =>
      have q0 : (s.toList == [97, 100, 100]) = false := by rw [hs, str_list]; exact h0
      have q1 : (s.toList == [115, 117, 98]) = true := by rw [hs, str_list]; exact h1
      have hv : Hid (swL FB vb = 2) := by simp [Hid, FB, swL, h0, h1]
      clear h0 h1 hs
      go_enter Tryz.func194, Tryz.ntmps194
      go_wp2
      go_ret
      exact ⟨ret_int hv.out.symm, rfl⟩
    | false =>
      cases h2 : (vb == [109, 117, 108]) with
      | true =>
        have q0 : (s.toList == [97, 100, 100]) = false := by rw [hs, str_list]; exact h0
        have q1 : (s.toList == [115, 117, 98]) = false := by rw [hs, str_list]; exact h1
        have q2 : (s.toList == [109, 117, 108]) = true := by rw [hs, str_list]; exact h2
        have hv : Hid (swL FB vb = 3) := by simp [Hid, FB, swL, h0, h1, h2]
        clear h0 h1 h2 hs
        go_enter Tryz.func194, Tryz.ntmps194
        go_wp2
        go_ret
        exact ⟨ret_int hv.out.symm, rfl⟩
      | false =>
        cases h3 : (vb == [100, 105, 118]) with
        | true =>
          have q0 : (s.toList == [97, 100, 100]) = false := by rw [hs, str_list]; exact h0
          have q1 : (s.toList == [115, 117, 98]) = false := by rw [hs, str_list]; exact h1
          have q2 : (s.toList == [109, 117, 108]) = false := by rw [hs, str_list]; exact h2
          have q3 : (s.toList == [100, 105, 118]) = true := by rw [hs, str_list]; exact h3
          have hv : Hid (swL FB vb = 4) := by simp [Hid, FB, swL, h0, h1, h2, h3]
          clear h0 h1 h2 h3 hs
          go_enter Tryz.func194, Tryz.ntmps194
          go_wp2
          go_ret
          exact ⟨ret_int hv.out.symm, rfl⟩
        | false =>
          cases h4 : (vb == [109, 105, 110]) with
          | true =>
            have q0 : (s.toList == [97, 100, 100]) = false := by rw [hs, str_list]; exact h0
            have q1 : (s.toList == [115, 117, 98]) = false := by rw [hs, str_list]; exact h1
            have q2 : (s.toList == [109, 117, 108]) = false := by rw [hs, str_list]; exact h2
            have q3 : (s.toList == [100, 105, 118]) = false := by rw [hs, str_list]; exact h3
            have q4 : (s.toList == [109, 105, 110]) = true := by rw [hs, str_list]; exact h4
            have hv : Hid (swL FB vb = 5) := by simp [Hid, FB, swL, h0, h1, h2, h3, h4]
            clear h0 h1 h2 h3 h4 hs
            go_enter Tryz.func194, Tryz.ntmps194
            go_wp2
            go_ret
            exact ⟨ret_int hv.out.symm, rfl⟩
          | false =>
            cases h5 : (vb == [109, 97, 120]) with
            | true =>
              have q0 : (s.toList == [97, 100, 100]) = false := by rw [hs, str_list]; exact h0
              have q1 : (s.toList == [115, 117, 98]) = false := by rw [hs, str_list]; exact h1
              have q2 : (s.toList == [109, 117, 108]) = false := by rw [hs, str_list]; exact h2
              have q3 : (s.toList == [100, 105, 118]) = false := by rw [hs, str_list]; exact h3
              have q4 : (s.toList == [109, 105, 110]) = false := by rw [hs, str_list]; exact h4
              have q5 : (s.toList == [109, 97, 120]) = true := by rw [hs, str_list]; exact h5
              have hv : Hid (swL FB vb = 6) := by simp [Hid, FB, swL, h0, h1, h2, h3, h4, h5]
              clear h0 h1 h2 h3 h4 h5 hs
              go_enter Tryz.func194, Tryz.ntmps194
              go_wp2
              go_ret
              exact ⟨ret_int hv.out.symm, rfl⟩
            | false =>
              cases h6 : (vb == [112, 109, 105, 110]) with
              | true =>
                have q0 : (s.toList == [97, 100, 100]) = false := by rw [hs, str_list]; exact h0
                have q1 : (s.toList == [115, 117, 98]) = false := by rw [hs, str_list]; exact h1
                have q2 : (s.toList == [109, 117, 108]) = false := by rw [hs, str_list]; exact h2
                have q3 : (s.toList == [100, 105, 118]) = false := by rw [hs, str_list]; exact h3
                have q4 : (s.toList == [109, 105, 110]) = false := by rw [hs, str_list]; exact h4
                have q5 : (s.toList == [109, 97, 120]) = false := by rw [hs, str_list]; exact h5
                have q6 : (s.toList == [112, 109, 105, 110]) = true := by rw [hs, str_list]; exact h6
                have hv : Hid (swL FB vb = 8) := by simp [Hid, FB, swL, h0, h1, h2, h3, h4, h5, h6]
                clear h0 h1 h2 h3 h4 h5 h6 hs
                go_enter Tryz.func194, Tryz.ntmps194
                go_wp2
                go_ret
                exact ⟨ret_int hv.out.symm, rfl⟩
              | false =>
                cases h7 : (vb == [112, 109, 97, 120]) with
                | true =>
                  have q0 : (s.toList == [97, 100, 100]) = false := by rw [hs, str_list]; exact h0
                  have q1 : (s.toList == [115, 117, 98]) = false := by rw [hs, str_list]; exact h1
                  have q2 : (s.toList == [109, 117, 108]) = false := by rw [hs, str_list]; exact h2
                  have q3 : (s.toList == [100, 105, 118]) = false := by rw [hs, str_list]; exact h3
                  have q4 : (s.toList == [109, 105, 110]) = false := by rw [hs, str_list]; exact h4
                  have q5 : (s.toList == [109, 97, 120]) = false := by rw [hs, str_list]; exact h5
                  have q6 : (s.toList == [112, 109, 105, 110]) = false := by rw [hs, str_list]; exact h6
                  have q7 : (s.toList == [112, 109, 97, 120]) = true := by rw [hs, str_list]; exact h7
                  have hv : Hid (swL FB vb = 9) := by simp [Hid, FB, swL, h0, h1, h2, h3, h4, h5, h6, h7]
                  clear h0 h1 h2 h3 h4 h5 h6 h7 hs
                  go_enter Tryz.func194, Tryz.ntmps194
                  go_wp2
                  go_ret
                  exact ⟨ret_int hv.out.symm, rfl⟩
                | false =>
                  have q0 : (s.toList == [97, 100, 100]) = false := by rw [hs, str_list]; exact h0
                  have q1 : (s.toList == [115, 117, 98]) = false := by rw [hs, str_list]; exact h1
                  have q2 : (s.toList == [109, 117, 108]) = false := by rw [hs, str_list]; exact h2
                  have q3 : (s.toList == [100, 105, 118]) = false := by rw [hs, str_list]; exact h3
                  have q4 : (s.toList == [109, 105, 110]) = false := by rw [hs, str_list]; exact h4
                  have q5 : (s.toList == [109, 97, 120]) = false := by rw [hs, str_list]; exact h5
                  have q6 : (s.toList == [112, 109, 105, 110]) = false := by rw [hs, str_list]; exact h6
                  have q7 : (s.toList == [112, 109, 97, 120]) = false := by rw [hs, str_list]; exact h7
                  have hv : Hid (swL FB vb = 0) := by simp [Hid, FB, swL, h0, h1, h2, h3, h4, h5, h6, h7]
                  clear h0 h1 h2 h3 h4 h5 h6 h7 hs
                  go_enter Tryz.func194, Tryz.ntmps194
                  go_wp2
                  go_ret
                  exact ⟨ret_int hv.out.symm, rfl⟩
set_option maxHeartbeats 4000000 in
set_option maxRecDepth 100000 in
theorem unary_says (vb : List UInt8) (ff : Bool) (fb : Int) (tf : Bool) (tb : Int) (sg : Bool) (w : World) : Calls Tryz.prog 112 #[insV vb ff fb tf tb sg] w fun e w' => e = .returned (.int .i64 (if tf then swL FU vb else swL IU vb)) ∧ Below w.heap.size w w' := by
  unfold insV
  obtain ⟨s, hs⟩ : ∃ s, s = str vb := ⟨_, rfl⟩
  have HF := fun W => hid (floatUnary_says vb W)
  have HE := fun a b W => hid (either_says vb ff fb tf tb sg a b W)
  unfold insV at HE
  rw [← hs] at HF HE ⊢
  cases tf with
  | true =>
    have hv : Hid ((if true then swL FU vb else swL IU vb) = swL FU vb) := rfl
    generalize swL FU vb = r at *
    clear hs
    go_enter Tryz.func112, Tryz.ntmps112
    go_wp2_with (go_at_call 191; refine (HF _).out.mono ?_; rintro e w3 ⟨rfl, rfl⟩)
    go_ret
    exact ⟨ret_int hv.out.symm, (Below.refl _ _).alloc (Nat.le_refl _) _⟩
  | false =>
    cases h0 : (vb == [97, 98, 115]) with
    | true =>
      have q0 : (s.toList == [97, 98, 115]) = true := by rw [hs, str_list]; exact h0
      have hv : Hid (swL IU vb = 7) := by simp [Hid, IU, swL, h0]
      clear h0 hs
      go_enter Tryz.func112, Tryz.ntmps112
      go_wp2_with (go_at_call 193; refine (HE _ _ _).out.mono ?_; rintro e w3 ⟨rfl, hb3⟩)
      go_ret
      first | exact ⟨ret_int (hv.out.symm : _ = swL IU vb), ((Below.refl _ _).alloc (Nat.le_refl _) _)⟩ | exact ⟨ret_int (hv.out.symm : _ = swL IU vb), ((Below.refl _ _).alloc (Nat.le_refl _) _).trans (hb3.mono (by simp))⟩
    | false =>
      cases h1 : (vb == [110, 101, 103]) with
      | true =>
        have q0 : (s.toList == [97, 98, 115]) = false := by rw [hs, str_list]; exact h0
        have q1 : (s.toList == [110, 101, 103]) = true := by rw [hs, str_list]; exact h1
        have hv : Hid (swL IU vb = 8) := by simp [Hid, IU, swL, h0, h1]
        clear h0 h1 hs
        go_enter Tryz.func112, Tryz.ntmps112
        go_wp2_with (go_at_call 193; refine (HE _ _ _).out.mono ?_; rintro e w3 ⟨rfl, hb3⟩)
        go_ret
        first | exact ⟨ret_int (hv.out.symm : _ = swL IU vb), ((Below.refl _ _).alloc (Nat.le_refl _) _)⟩ | exact ⟨ret_int (hv.out.symm : _ = swL IU vb), ((Below.refl _ _).alloc (Nat.le_refl _) _).trans (hb3.mono (by simp))⟩
      | false =>
        cases h2 : (vb == [112, 111, 112, 99, 110, 116]) with
        | true =>
          have q0 : (s.toList == [97, 98, 115]) = false := by rw [hs, str_list]; exact h0
          have q1 : (s.toList == [110, 101, 103]) = false := by rw [hs, str_list]; exact h1
          have q2 : (s.toList == [112, 111, 112, 99, 110, 116]) = true := by rw [hs, str_list]; exact h2
          have hv : Hid (swL IU vb = 3) := by simp [Hid, IU, swL, h0, h1, h2]
          clear h0 h1 h2 hs
          go_enter Tryz.func112, Tryz.ntmps112
          go_wp2_with (go_at_call 193; refine (HE _ _ _).out.mono ?_; rintro e w3 ⟨rfl, hb3⟩)
          go_ret
          first | exact ⟨ret_int (hv.out.symm : _ = swL IU vb), ((Below.refl _ _).alloc (Nat.le_refl _) _)⟩ | exact ⟨ret_int (hv.out.symm : _ = swL IU vb), ((Below.refl _ _).alloc (Nat.le_refl _) _).trans (hb3.mono (by simp))⟩
        | false =>
          have q0 : (s.toList == [97, 98, 115]) = false := by rw [hs, str_list]; exact h0
          have q1 : (s.toList == [110, 101, 103]) = false := by rw [hs, str_list]; exact h1
          have q2 : (s.toList == [112, 111, 112, 99, 110, 116]) = false := by rw [hs, str_list]; exact h2
          have hv : Hid (swL IU vb = 0) := by simp [Hid, IU, swL, h0, h1, h2]
          clear h0 h1 h2 hs
          go_enter Tryz.func112, Tryz.ntmps112
          go_wp2_with (go_at_call 193; refine (HE _ _ _).out.mono ?_; rintro e w3 ⟨rfl, hb3⟩)
          go_ret
          first | exact ⟨ret_int (hv.out.symm : _ = swL IU vb), ((Below.refl _ _).alloc (Nat.le_refl _) _)⟩ | exact ⟨ret_int (hv.out.symm : _ = swL IU vb), ((Below.refl _ _).alloc (Nat.le_refl _) _).trans (hb3.mono (by simp))⟩
set_option maxHeartbeats 4000000 in
set_option maxRecDepth 100000 in
theorem relation_says (vb : List UInt8) (ff : Bool) (fb : Int) (tf : Bool) (tb : Int) (sg : Bool) (w : World) : Calls Tryz.prog 114 #[insV vb ff fb tf tb sg] w fun e w' => e = .returned (.int .i64 (if tf then swL FR vb else swL (IR sg) vb)) ∧ Below w.heap.size w w' := by
  unfold insV
  obtain ⟨s, hs⟩ : ∃ s, s = str vb := ⟨_, rfl⟩
  have HF := fun W => hid (floatRelation_says vb W)
  have HE := fun a b W => hid (either_says vb ff fb tf tb sg a b W)
  unfold insV at HE
  rw [← hs] at HF HE ⊢
  cases tf with
  | true =>
    have hv : Hid ((if true then swL FR vb else swL (IR sg) vb) = swL FR vb) := rfl
    generalize swL FR vb = r at *
    clear hs
    go_enter Tryz.func114, Tryz.ntmps114
    go_wp2_with (go_at_call 192; refine (HF _).out.mono ?_; rintro e w3 ⟨rfl, rfl⟩)
    go_ret
    exact ⟨ret_int hv.out.symm, (Below.refl _ _).alloc (Nat.le_refl _) _⟩
  | false =>
    cases h0 : (vb == [101, 113]) with
    | true =>
      have q0 : (s.toList == [101, 113]) = true := by rw [hs, str_list]; exact h0
      have hv : Hid (swL (IR sg) vb = 1) := by simp [Hid, IR, swL, h0]
      clear h0 hs
      go_enter Tryz.func114, Tryz.ntmps114
      go_wp2_with (go_at_call 193; refine (HE _ _ _).out.mono ?_; rintro e w3 ⟨rfl, hb3⟩)
      go_ret
      first | exact ⟨ret_int (hv.out.symm : _ = swL (IR sg) vb), ((Below.refl _ _).alloc (Nat.le_refl _) _)⟩ | exact ⟨ret_int (hv.out.symm : _ = swL (IR sg) vb), ((Below.refl _ _).alloc (Nat.le_refl _) _).trans (hb3.mono (by simp))⟩
    | false =>
      cases h1 : (vb == [110, 101]) with
      | true =>
        have q0 : (s.toList == [101, 113]) = false := by rw [hs, str_list]; exact h0
        have q1 : (s.toList == [110, 101]) = true := by rw [hs, str_list]; exact h1
        have hv : Hid (swL (IR sg) vb = 2) := by simp [Hid, IR, swL, h0, h1]
        clear h0 h1 hs
        go_enter Tryz.func114, Tryz.ntmps114
        go_wp2_with (go_at_call 193; refine (HE _ _ _).out.mono ?_; rintro e w3 ⟨rfl, hb3⟩)
        go_ret
        first | exact ⟨ret_int (hv.out.symm : _ = swL (IR sg) vb), ((Below.refl _ _).alloc (Nat.le_refl _) _)⟩ | exact ⟨ret_int (hv.out.symm : _ = swL (IR sg) vb), ((Below.refl _ _).alloc (Nat.le_refl _) _).trans (hb3.mono (by simp))⟩
      | false =>
        cases h2 : (vb == [108, 116]) with
        | true =>
          have q0 : (s.toList == [101, 113]) = false := by rw [hs, str_list]; exact h0
          have q1 : (s.toList == [110, 101]) = false := by rw [hs, str_list]; exact h1
          have q2 : (s.toList == [108, 116]) = true := by rw [hs, str_list]; exact h2
          have hv : Hid (swL (IR sg) vb = (ei sg 3 4)) := by simp [Hid, IR, swL, h0, h1, h2]
          clear h0 h1 h2 hs
          go_enter Tryz.func114, Tryz.ntmps114
          go_wp2_with (go_at_call 193; refine (HE _ _ _).out.mono ?_; rintro e w3 ⟨rfl, hb3⟩)
          go_ret
          first | exact ⟨ret_int (hv.out.symm : _ = swL (IR sg) vb), ((Below.refl _ _).alloc (Nat.le_refl _) _)⟩ | exact ⟨ret_int (hv.out.symm : _ = swL (IR sg) vb), ((Below.refl _ _).alloc (Nat.le_refl _) _).trans (hb3.mono (by simp))⟩
        | false =>
          cases h3 : (vb == [103, 116]) with
          | true =>
            have q0 : (s.toList == [101, 113]) = false := by rw [hs, str_list]; exact h0
            have q1 : (s.toList == [110, 101]) = false := by rw [hs, str_list]; exact h1
            have q2 : (s.toList == [108, 116]) = false := by rw [hs, str_list]; exact h2
            have q3 : (s.toList == [103, 116]) = true := by rw [hs, str_list]; exact h3
            have hv : Hid (swL (IR sg) vb = (ei sg 5 6)) := by simp [Hid, IR, swL, h0, h1, h2, h3]
            clear h0 h1 h2 h3 hs
            go_enter Tryz.func114, Tryz.ntmps114
            go_wp2_with (go_at_call 193; refine (HE _ _ _).out.mono ?_; rintro e w3 ⟨rfl, hb3⟩)
            go_ret
            first | exact ⟨ret_int (hv.out.symm : _ = swL (IR sg) vb), ((Below.refl _ _).alloc (Nat.le_refl _) _)⟩ | exact ⟨ret_int (hv.out.symm : _ = swL (IR sg) vb), ((Below.refl _ _).alloc (Nat.le_refl _) _).trans (hb3.mono (by simp))⟩
          | false =>
            cases h4 : (vb == [108, 101]) with
            | true =>
              have q0 : (s.toList == [101, 113]) = false := by rw [hs, str_list]; exact h0
              have q1 : (s.toList == [110, 101]) = false := by rw [hs, str_list]; exact h1
              have q2 : (s.toList == [108, 116]) = false := by rw [hs, str_list]; exact h2
              have q3 : (s.toList == [103, 116]) = false := by rw [hs, str_list]; exact h3
              have q4 : (s.toList == [108, 101]) = true := by rw [hs, str_list]; exact h4
              have hv : Hid (swL (IR sg) vb = (ei sg 7 8)) := by simp [Hid, IR, swL, h0, h1, h2, h3, h4]
              clear h0 h1 h2 h3 h4 hs
              go_enter Tryz.func114, Tryz.ntmps114
              go_wp2_with (go_at_call 193; refine (HE _ _ _).out.mono ?_; rintro e w3 ⟨rfl, hb3⟩)
              go_ret
              first | exact ⟨ret_int (hv.out.symm : _ = swL (IR sg) vb), ((Below.refl _ _).alloc (Nat.le_refl _) _)⟩ | exact ⟨ret_int (hv.out.symm : _ = swL (IR sg) vb), ((Below.refl _ _).alloc (Nat.le_refl _) _).trans (hb3.mono (by simp))⟩
            | false =>
              cases h5 : (vb == [103, 101]) with
              | true =>
                have q0 : (s.toList == [101, 113]) = false := by rw [hs, str_list]; exact h0
                have q1 : (s.toList == [110, 101]) = false := by rw [hs, str_list]; exact h1
                have q2 : (s.toList == [108, 116]) = false := by rw [hs, str_list]; exact h2
                have q3 : (s.toList == [103, 116]) = false := by rw [hs, str_list]; exact h3
                have q4 : (s.toList == [108, 101]) = false := by rw [hs, str_list]; exact h4
                have q5 : (s.toList == [103, 101]) = true := by rw [hs, str_list]; exact h5
                have hv : Hid (swL (IR sg) vb = (ei sg 9 10)) := by simp [Hid, IR, swL, h0, h1, h2, h3, h4, h5]
                clear h0 h1 h2 h3 h4 h5 hs
                go_enter Tryz.func114, Tryz.ntmps114
                go_wp2_with (go_at_call 193; refine (HE _ _ _).out.mono ?_; rintro e w3 ⟨rfl, hb3⟩)
                go_ret
                first | exact ⟨ret_int (hv.out.symm : _ = swL (IR sg) vb), ((Below.refl _ _).alloc (Nat.le_refl _) _)⟩ | exact ⟨ret_int (hv.out.symm : _ = swL (IR sg) vb), ((Below.refl _ _).alloc (Nat.le_refl _) _).trans (hb3.mono (by simp))⟩
              | false =>
                have q0 : (s.toList == [101, 113]) = false := by rw [hs, str_list]; exact h0
                have q1 : (s.toList == [110, 101]) = false := by rw [hs, str_list]; exact h1
                have q2 : (s.toList == [108, 116]) = false := by rw [hs, str_list]; exact h2
                have q3 : (s.toList == [103, 116]) = false := by rw [hs, str_list]; exact h3
                have q4 : (s.toList == [108, 101]) = false := by rw [hs, str_list]; exact h4
                have q5 : (s.toList == [103, 101]) = false := by rw [hs, str_list]; exact h5
                have hv : Hid (swL (IR sg) vb = 0) := by simp [Hid, IR, swL, h0, h1, h2, h3, h4, h5]
                clear h0 h1 h2 h3 h4 h5 hs
                go_enter Tryz.func114, Tryz.ntmps114
                go_wp2_with (go_at_call 193; refine (HE _ _ _).out.mono ?_; rintro e w3 ⟨rfl, hb3⟩)
                go_ret
                first | exact ⟨ret_int (hv.out.symm : _ = swL (IR sg) vb), ((Below.refl _ _).alloc (Nat.le_refl _) _)⟩ | exact ⟨ret_int (hv.out.symm : _ = swL (IR sg) vb), ((Below.refl _ _).alloc (Nat.le_refl _) _).trans (hb3.mono (by simp))⟩
end Go.Proofs.YtlhakbkdlgejpaaGreatDoor
