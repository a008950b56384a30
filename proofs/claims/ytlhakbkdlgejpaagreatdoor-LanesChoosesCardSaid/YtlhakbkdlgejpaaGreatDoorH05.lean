/-
  LSwB, LClo, LOper: merged, what the law does not reach left out (each text says what it holds where it lies in wip). No condition.
-/
import Derived.Test.YtlhakbkdlgejpaaGreatDoorH04
import Derived.Test.YtlhakbkdlgejpaaGreatDoorH03
import Derived.Test.YtlhakbkdlgejpaaGreatDoorH01
import Derived.Shelf.Abstract
set_option linter.unusedSimpArgs false
set_option linter.unusedVariables false
set_option maxRecDepth 100000
namespace Go.Proofs.YtlhakbkdlgejpaaGreatDoor
open Go.RowKit
set_option maxHeartbeats 4000000 in
set_option maxRecDepth 100000 in
theorem binary_says (vb : List UInt8) (ff : Bool) (fb : Int) (tf : Bool) (tb : Int) (sg : Bool) (w : World) : Calls Tryz.prog 116 #[insV vb ff fb tf tb sg] w fun e w' => e = .returned (.int .i64 (if tf then swL FB vb else swL (IB sg) vb)) ∧ Below w.heap.size w w' := by
  unfold insV
  obtain ⟨s, hs⟩ : ∃ s, s = str vb := ⟨_, rfl⟩
  have HF := fun W => hid (floatBinary_says vb W)
  have HE := fun a b W => hid (either_says vb ff fb tf tb sg a b W)
  unfold insV at HE
  rw [← hs] at HF HE ⊢
  cases tf with
  | true =>
    have hv : Hid ((if true then swL FB vb else swL (IB sg) vb) = swL FB vb) := rfl
    generalize swL FB vb = r at *
    clear hs
    go_enter Tryz.func116, Tryz.ntmps116
    go_wp2_with (go_at_call 194; refine (HF _).out.mono ?_; rintro e w3 ⟨rfl, rfl⟩)
    go_ret
    exact ⟨ret_int hv.out.symm, (Below.refl _ _).alloc (Nat.le_refl _) _⟩
  | false =>
    cases h0 : (vb == [97, 110, 100]) with
    | true =>
      have q0 : (s.toList == [97, 110, 100]) = true := by rw [hs, str_list]; exact h0
      have hv : Hid (swL (IB sg) vb = 8) := by simp [Hid, IB, swL, h0]
      clear h0 hs
      go_enter Tryz.func116, Tryz.ntmps116
      go_wp2_with (go_at_call 193; refine (HE _ _ _).out.mono ?_; rintro e w3 ⟨rfl, hb3⟩)
      go_ret
      first | exact ⟨ret_int (hv.out.symm : _ = swL (IB sg) vb), ((Below.refl _ _).alloc (Nat.le_refl _) _)⟩ | exact ⟨ret_int (hv.out.symm : _ = swL (IB sg) vb), ((Below.refl _ _).alloc (Nat.le_refl _) _).trans (hb3.mono (by simp))⟩
    | false =>
      cases h1 : (vb == [111, 114]) with
      | true =>
        have q0 : (s.toList == [97, 110, 100]) = false := by rw [hs, str_list]; exact h0
        have q1 : (s.toList == [111, 114]) = true := by rw [hs, str_list]; exact h1
        have hv : Hid (swL (IB sg) vb = 9) := by simp [Hid, IB, swL, h0, h1]
        clear h0 h1 hs
        go_enter Tryz.func116, Tryz.ntmps116
        go_wp2_with (go_at_call 193; refine (HE _ _ _).out.mono ?_; rintro e w3 ⟨rfl, hb3⟩)
        go_ret
        first | exact ⟨ret_int (hv.out.symm : _ = swL (IB sg) vb), ((Below.refl _ _).alloc (Nat.le_refl _) _)⟩ | exact ⟨ret_int (hv.out.symm : _ = swL (IB sg) vb), ((Below.refl _ _).alloc (Nat.le_refl _) _).trans (hb3.mono (by simp))⟩
      | false =>
        cases h2 : (vb == [120, 111, 114]) with
        | true =>
          have q0 : (s.toList == [97, 110, 100]) = false := by rw [hs, str_list]; exact h0
          have q1 : (s.toList == [111, 114]) = false := by rw [hs, str_list]; exact h1
          have q2 : (s.toList == [120, 111, 114]) = true := by rw [hs, str_list]; exact h2
          have hv : Hid (swL (IB sg) vb = 10) := by simp [Hid, IB, swL, h0, h1, h2]
          clear h0 h1 h2 hs
          go_enter Tryz.func116, Tryz.ntmps116
          go_wp2_with (go_at_call 193; refine (HE _ _ _).out.mono ?_; rintro e w3 ⟨rfl, hb3⟩)
          go_ret
          first | exact ⟨ret_int (hv.out.symm : _ = swL (IB sg) vb), ((Below.refl _ _).alloc (Nat.le_refl _) _)⟩ | exact ⟨ret_int (hv.out.symm : _ = swL (IB sg) vb), ((Below.refl _ _).alloc (Nat.le_refl _) _).trans (hb3.mono (by simp))⟩
        | false =>
          cases h3 : (vb == [115, 104, 108]) with
          | true =>
            have q0 : (s.toList == [97, 110, 100]) = false := by rw [hs, str_list]; exact h0
            have q1 : (s.toList == [111, 114]) = false := by rw [hs, str_list]; exact h1
            have q2 : (s.toList == [120, 111, 114]) = false := by rw [hs, str_list]; exact h2
            have q3 : (s.toList == [115, 104, 108]) = true := by rw [hs, str_list]; exact h3
            have hv : Hid (swL (IB sg) vb = 11) := by simp [Hid, IB, swL, h0, h1, h2, h3]
            clear h0 h1 h2 h3 hs
            go_enter Tryz.func116, Tryz.ntmps116
            go_wp2_with (go_at_call 193; refine (HE _ _ _).out.mono ?_; rintro e w3 ⟨rfl, hb3⟩)
            go_ret
            first | exact ⟨ret_int (hv.out.symm : _ = swL (IB sg) vb), ((Below.refl _ _).alloc (Nat.le_refl _) _)⟩ | exact ⟨ret_int (hv.out.symm : _ = swL (IB sg) vb), ((Below.refl _ _).alloc (Nat.le_refl _) _).trans (hb3.mono (by simp))⟩
          | false =>
            cases h4 : (vb == [115, 104, 114]) with
            | true =>
              have q0 : (s.toList == [97, 110, 100]) = false := by rw [hs, str_list]; exact h0
              have q1 : (s.toList == [111, 114]) = false := by rw [hs, str_list]; exact h1
              have q2 : (s.toList == [120, 111, 114]) = false := by rw [hs, str_list]; exact h2
              have q3 : (s.toList == [115, 104, 108]) = false := by rw [hs, str_list]; exact h3
              have q4 : (s.toList == [115, 104, 114]) = true := by rw [hs, str_list]; exact h4
              have hv : Hid (swL (IB sg) vb = (ei sg 12 13)) := by simp [Hid, IB, swL, h0, h1, h2, h3, h4]
              clear h0 h1 h2 h3 h4 hs
              go_enter Tryz.func116, Tryz.ntmps116
              go_wp2_with (go_at_call 193; refine (HE _ _ _).out.mono ?_; rintro e w3 ⟨rfl, hb3⟩)
              go_ret
              first | exact ⟨ret_int (hv.out.symm : _ = swL (IB sg) vb), ((Below.refl _ _).alloc (Nat.le_refl _) _)⟩ | exact ⟨ret_int (hv.out.symm : _ = swL (IB sg) vb), ((Below.refl _ _).alloc (Nat.le_refl _) _).trans (hb3.mono (by simp))⟩
            | false =>
              cases h5 : (vb == [97, 100, 100]) with
              | true =>
                have q0 : (s.toList == [97, 110, 100]) = false := by rw [hs, str_list]; exact h0
                have q1 : (s.toList == [111, 114]) = false := by rw [hs, str_list]; exact h1
                have q2 : (s.toList == [120, 111, 114]) = false := by rw [hs, str_list]; exact h2
                have q3 : (s.toList == [115, 104, 108]) = false := by rw [hs, str_list]; exact h3
                have q4 : (s.toList == [115, 104, 114]) = false := by rw [hs, str_list]; exact h4
                have q5 : (s.toList == [97, 100, 100]) = true := by rw [hs, str_list]; exact h5
                have hv : Hid (swL (IB sg) vb = 1) := by simp [Hid, IB, swL, h0, h1, h2, h3, h4, h5]
                clear h0 h1 h2 h3 h4 h5 hs
                go_enter Tryz.func116, Tryz.ntmps116
                go_wp2_with (go_at_call 193; refine (HE _ _ _).out.mono ?_; rintro e w3 ⟨rfl, hb3⟩)
                go_ret
                first | exact ⟨ret_int (hv.out.symm : _ = swL (IB sg) vb), ((Below.refl _ _).alloc (Nat.le_refl _) _)⟩ | exact ⟨ret_int (hv.out.symm : _ = swL (IB sg) vb), ((Below.refl _ _).alloc (Nat.le_refl _) _).trans (hb3.mono (by simp))⟩
              | false =>
                cases h6 : (vb == [115, 117, 98]) with
                | true =>
                  have q0 : (s.toList == [97, 110, 100]) = false := by rw [hs, str_list]; exact h0
                  have q1 : (s.toList == [111, 114]) = false := by rw [hs, str_list]; exact h1
                  have q2 : (s.toList == [120, 111, 114]) = false := by rw [hs, str_list]; exact h2
                  have q3 : (s.toList == [115, 104, 108]) = false := by rw [hs, str_list]; exact h3
                  have q4 : (s.toList == [115, 104, 114]) = false := by rw [hs, str_list]; exact h4
                  have q5 : (s.toList == [97, 100, 100]) = false := by rw [hs, str_list]; exact h5
                  have q6 : (s.toList == [115, 117, 98]) = true := by rw [hs, str_list]; exact h6
                  have hv : Hid (swL (IB sg) vb = 2) := by simp [Hid, IB, swL, h0, h1, h2, h3, h4, h5, h6]
                  clear h0 h1 h2 h3 h4 h5 h6 hs
                  go_enter Tryz.func116, Tryz.ntmps116
                  go_wp2_with (go_at_call 193; refine (HE _ _ _).out.mono ?_; rintro e w3 ⟨rfl, hb3⟩)
                  go_ret
                  first | exact ⟨ret_int (hv.out.symm : _ = swL (IB sg) vb), ((Below.refl _ _).alloc (Nat.le_refl _) _)⟩ | exact ⟨ret_int (hv.out.symm : _ = swL (IB sg) vb), ((Below.refl _ _).alloc (Nat.le_refl _) _).trans (hb3.mono (by simp))⟩
                | false =>
                  cases h7 : (vb == [109, 117, 108]) with
                  | true =>
                    have q0 : (s.toList == [97, 110, 100]) = false := by rw [hs, str_list]; exact h0
                    have q1 : (s.toList == [111, 114]) = false := by rw [hs, str_list]; exact h1
                    have q2 : (s.toList == [120, 111, 114]) = false := by rw [hs, str_list]; exact h2
                    have q3 : (s.toList == [115, 104, 108]) = false := by rw [hs, str_list]; exact h3
                    have q4 : (s.toList == [115, 104, 114]) = false := by rw [hs, str_list]; exact h4
                    have q5 : (s.toList == [97, 100, 100]) = false := by rw [hs, str_list]; exact h5
                    have q6 : (s.toList == [115, 117, 98]) = false := by rw [hs, str_list]; exact h6
                    have q7 : (s.toList == [109, 117, 108]) = true := by rw [hs, str_list]; exact h7
                    have hv : Hid (swL (IB sg) vb = 3) := by simp [Hid, IB, swL, h0, h1, h2, h3, h4, h5, h6, h7]
                    clear h0 h1 h2 h3 h4 h5 h6 h7 hs
                    go_enter Tryz.func116, Tryz.ntmps116
                    go_wp2_with (go_at_call 193; refine (HE _ _ _).out.mono ?_; rintro e w3 ⟨rfl, hb3⟩)
                    go_ret
                    first | exact ⟨ret_int (hv.out.symm : _ = swL (IB sg) vb), ((Below.refl _ _).alloc (Nat.le_refl _) _)⟩ | exact ⟨ret_int (hv.out.symm : _ = swL (IB sg) vb), ((Below.refl _ _).alloc (Nat.le_refl _) _).trans (hb3.mono (by simp))⟩
                  | false =>
                    cases h8 : (vb == [109, 105, 110]) with
                    | true =>
                      have q0 : (s.toList == [97, 110, 100]) = false := by rw [hs, str_list]; exact h0
                      have q1 : (s.toList == [111, 114]) = false := by rw [hs, str_list]; exact h1
                      have q2 : (s.toList == [120, 111, 114]) = false := by rw [hs, str_list]; exact h2
                      have q3 : (s.toList == [115, 104, 108]) = false := by rw [hs, str_list]; exact h3
                      have q4 : (s.toList == [115, 104, 114]) = false := by rw [hs, str_list]; exact h4
                      have q5 : (s.toList == [97, 100, 100]) = false := by rw [hs, str_list]; exact h5
                      have q6 : (s.toList == [115, 117, 98]) = false := by rw [hs, str_list]; exact h6
                      have q7 : (s.toList == [109, 117, 108]) = false := by rw [hs, str_list]; exact h7
                      have q8 : (s.toList == [109, 105, 110]) = true := by rw [hs, str_list]; exact h8
                      have hv : Hid (swL (IB sg) vb = (ei sg 20 21)) := by simp [Hid, IB, swL, h0, h1, h2, h3, h4, h5, h6, h7, h8]
                      clear h0 h1 h2 h3 h4 h5 h6 h7 h8 hs
                      go_enter Tryz.func116, Tryz.ntmps116
                      go_wp2_with (go_at_call 193; refine (HE _ _ _).out.mono ?_; rintro e w3 ⟨rfl, hb3⟩)
                      go_ret
                      first | exact ⟨ret_int (hv.out.symm : _ = swL (IB sg) vb), ((Below.refl _ _).alloc (Nat.le_refl _) _)⟩ | exact ⟨ret_int (hv.out.symm : _ = swL (IB sg) vb), ((Below.refl _ _).alloc (Nat.le_refl _) _).trans (hb3.mono (by simp))⟩
                    | false =>
                      cases h9 : (vb == [109, 97, 120]) with
                      | true =>
                        have q0 : (s.toList == [97, 110, 100]) = false := by rw [hs, str_list]; exact h0
                        have q1 : (s.toList == [111, 114]) = false := by rw [hs, str_list]; exact h1
                        have q2 : (s.toList == [120, 111, 114]) = false := by rw [hs, str_list]; exact h2
                        have q3 : (s.toList == [115, 104, 108]) = false := by rw [hs, str_list]; exact h3
                        have q4 : (s.toList == [115, 104, 114]) = false := by rw [hs, str_list]; exact h4
                        have q5 : (s.toList == [97, 100, 100]) = false := by rw [hs, str_list]; exact h5
                        have q6 : (s.toList == [115, 117, 98]) = false := by rw [hs, str_list]; exact h6
                        have q7 : (s.toList == [109, 117, 108]) = false := by rw [hs, str_list]; exact h7
                        have q8 : (s.toList == [109, 105, 110]) = false := by rw [hs, str_list]; exact h8
                        have q9 : (s.toList == [109, 97, 120]) = true := by rw [hs, str_list]; exact h9
                        have hv : Hid (swL (IB sg) vb = (ei sg 22 23)) := by simp [Hid, IB, swL, h0, h1, h2, h3, h4, h5, h6, h7, h8, h9]
                        clear h0 h1 h2 h3 h4 h5 h6 h7 h8 h9 hs
                        go_enter Tryz.func116, Tryz.ntmps116
                        go_wp2_with (go_at_call 193; refine (HE _ _ _).out.mono ?_; rintro e w3 ⟨rfl, hb3⟩)
                        go_ret
                        first | exact ⟨ret_int (hv.out.symm : _ = swL (IB sg) vb), ((Below.refl _ _).alloc (Nat.le_refl _) _)⟩ | exact ⟨ret_int (hv.out.symm : _ = swL (IB sg) vb), ((Below.refl _ _).alloc (Nat.le_refl _) _).trans (hb3.mono (by simp))⟩
                      | false =>
                        cases h10 : (vb == [97, 100, 100, 95, 115, 97, 116]) with
                        | true =>
                          have q0 : (s.toList == [97, 110, 100]) = false := by rw [hs, str_list]; exact h0
                          have q1 : (s.toList == [111, 114]) = false := by rw [hs, str_list]; exact h1
                          have q2 : (s.toList == [120, 111, 114]) = false := by rw [hs, str_list]; exact h2
                          have q3 : (s.toList == [115, 104, 108]) = false := by rw [hs, str_list]; exact h3
                          have q4 : (s.toList == [115, 104, 114]) = false := by rw [hs, str_list]; exact h4
                          have q5 : (s.toList == [97, 100, 100]) = false := by rw [hs, str_list]; exact h5
                          have q6 : (s.toList == [115, 117, 98]) = false := by rw [hs, str_list]; exact h6
                          have q7 : (s.toList == [109, 117, 108]) = false := by rw [hs, str_list]; exact h7
                          have q8 : (s.toList == [109, 105, 110]) = false := by rw [hs, str_list]; exact h8
                          have q9 : (s.toList == [109, 97, 120]) = false := by rw [hs, str_list]; exact h9
                          have q10 : (s.toList == [97, 100, 100, 95, 115, 97, 116]) = true := by rw [hs, str_list]; exact h10
                          have hv : Hid (swL (IB sg) vb = (ei sg 16 17)) := by simp [Hid, IB, swL, h0, h1, h2, h3, h4, h5, h6, h7, h8, h9, h10]
                          clear h0 h1 h2 h3 h4 h5 h6 h7 h8 h9 h10 hs
                          go_enter Tryz.func116, Tryz.ntmps116
                          go_wp2_with (go_at_call 193; refine (HE _ _ _).out.mono ?_; rintro e w3 ⟨rfl, hb3⟩)
                          go_ret
                          first | exact ⟨ret_int (hv.out.symm : _ = swL (IB sg) vb), ((Below.refl _ _).alloc (Nat.le_refl _) _)⟩ | exact ⟨ret_int (hv.out.symm : _ = swL (IB sg) vb), ((Below.refl _ _).alloc (Nat.le_refl _) _).trans (hb3.mono (by simp))⟩
                        | false =>
                          cases h11 : (vb == [115, 117, 98, 95, 115, 97, 116]) with
                          | true =>
                            have q0 : (s.toList == [97, 110, 100]) = false := by rw [hs, str_list]; exact h0
                            have q1 : (s.toList == [111, 114]) = false := by rw [hs, str_list]; exact h1
                            have q2 : (s.toList == [120, 111, 114]) = false := by rw [hs, str_list]; exact h2
                            have q3 : (s.toList == [115, 104, 108]) = false := by rw [hs, str_list]; exact h3
                            have q4 : (s.toList == [115, 104, 114]) = false := by rw [hs, str_list]; exact h4
                            have q5 : (s.toList == [97, 100, 100]) = false := by rw [hs, str_list]; exact h5
                            have q6 : (s.toList == [115, 117, 98]) = false := by rw [hs, str_list]; exact h6
                            have q7 : (s.toList == [109, 117, 108]) = false := by rw [hs, str_list]; exact h7
                            have q8 : (s.toList == [109, 105, 110]) = false := by rw [hs, str_list]; exact h8
                            have q9 : (s.toList == [109, 97, 120]) = false := by rw [hs, str_list]; exact h9
                            have q10 : (s.toList == [97, 100, 100, 95, 115, 97, 116]) = false := by rw [hs, str_list]; exact h10
                            have q11 : (s.toList == [115, 117, 98, 95, 115, 97, 116]) = true := by rw [hs, str_list]; exact h11
                            have hv : Hid (swL (IB sg) vb = (ei sg 18 19)) := by simp [Hid, IB, swL, h0, h1, h2, h3, h4, h5, h6, h7, h8, h9, h10, h11]
                            clear h0 h1 h2 h3 h4 h5 h6 h7 h8 h9 h10 h11 hs
                            go_enter Tryz.func116, Tryz.ntmps116
                            go_wp2_with (go_at_call 193; refine (HE _ _ _).out.mono ?_; rintro e w3 ⟨rfl, hb3⟩)
                            go_ret
                            first | exact ⟨ret_int (hv.out.symm : _ = swL (IB sg) vb), ((Below.refl _ _).alloc (Nat.le_refl _) _)⟩ | exact ⟨ret_int (hv.out.symm : _ = swL (IB sg) vb), ((Below.refl _ _).alloc (Nat.le_refl _) _).trans (hb3.mono (by simp))⟩
                          | false =>
                            cases h12 : (vb == [97, 118, 103, 114]) with
                            | true =>
                              have q0 : (s.toList == [97, 110, 100]) = false := by rw [hs, str_list]; exact h0
                              have q1 : (s.toList == [111, 114]) = false := by rw [hs, str_list]; exact h1
                              have q2 : (s.toList == [120, 111, 114]) = false := by rw [hs, str_list]; exact h2
                              have q3 : (s.toList == [115, 104, 108]) = false := by rw [hs, str_list]; exact h3
                              have q4 : (s.toList == [115, 104, 114]) = false := by rw [hs, str_list]; exact h4
                              have q5 : (s.toList == [97, 100, 100]) = false := by rw [hs, str_list]; exact h5
                              have q6 : (s.toList == [115, 117, 98]) = false := by rw [hs, str_list]; exact h6
                              have q7 : (s.toList == [109, 117, 108]) = false := by rw [hs, str_list]; exact h7
                              have q8 : (s.toList == [109, 105, 110]) = false := by rw [hs, str_list]; exact h8
                              have q9 : (s.toList == [109, 97, 120]) = false := by rw [hs, str_list]; exact h9
                              have q10 : (s.toList == [97, 100, 100, 95, 115, 97, 116]) = false := by rw [hs, str_list]; exact h10
                              have q11 : (s.toList == [115, 117, 98, 95, 115, 97, 116]) = false := by rw [hs, str_list]; exact h11
                              have q12 : (s.toList == [97, 118, 103, 114]) = true := by rw [hs, str_list]; exact h12
                              have hv : Hid (swL (IB sg) vb = 24) := by simp [Hid, IB, swL, h0, h1, h2, h3, h4, h5, h6, h7, h8, h9, h10, h11, h12]
                              clear h0 h1 h2 h3 h4 h5 h6 h7 h8 h9 h10 h11 h12 hs
                              go_enter Tryz.func116, Tryz.ntmps116
                              go_wp2_with (go_at_call 193; refine (HE _ _ _).out.mono ?_; rintro e w3 ⟨rfl, hb3⟩)
                              go_ret
                              first | exact ⟨ret_int (hv.out.symm : _ = swL (IB sg) vb), ((Below.refl _ _).alloc (Nat.le_refl _) _)⟩ | exact ⟨ret_int (hv.out.symm : _ = swL (IB sg) vb), ((Below.refl _ _).alloc (Nat.le_refl _) _).trans (hb3.mono (by simp))⟩
                            | false =>
                              cases h13 : (vb == [113, 49, 53, 109, 117, 108, 114, 95, 115, 97, 116]) with
                              | true =>
                                have q0 : (s.toList == [97, 110, 100]) = false := by rw [hs, str_list]; exact h0
                                have q1 : (s.toList == [111, 114]) = false := by rw [hs, str_list]; exact h1
                                have q2 : (s.toList == [120, 111, 114]) = false := by rw [hs, str_list]; exact h2
                                have q3 : (s.toList == [115, 104, 108]) = false := by rw [hs, str_list]; exact h3
                                have q4 : (s.toList == [115, 104, 114]) = false := by rw [hs, str_list]; exact h4
                                have q5 : (s.toList == [97, 100, 100]) = false := by rw [hs, str_list]; exact h5
                                have q6 : (s.toList == [115, 117, 98]) = false := by rw [hs, str_list]; exact h6
                                have q7 : (s.toList == [109, 117, 108]) = false := by rw [hs, str_list]; exact h7
                                have q8 : (s.toList == [109, 105, 110]) = false := by rw [hs, str_list]; exact h8
                                have q9 : (s.toList == [109, 97, 120]) = false := by rw [hs, str_list]; exact h9
                                have q10 : (s.toList == [97, 100, 100, 95, 115, 97, 116]) = false := by rw [hs, str_list]; exact h10
                                have q11 : (s.toList == [115, 117, 98, 95, 115, 97, 116]) = false := by rw [hs, str_list]; exact h11
                                have q12 : (s.toList == [97, 118, 103, 114]) = false := by rw [hs, str_list]; exact h12
                                have q13 : (s.toList == [113, 49, 53, 109, 117, 108, 114, 95, 115, 97, 116]) = true := by rw [hs, str_list]; exact h13
                                have hv : Hid (swL (IB sg) vb = 25) := by simp [Hid, IB, swL, h0, h1, h2, h3, h4, h5, h6, h7, h8, h9, h10, h11, h12, h13]
                                clear h0 h1 h2 h3 h4 h5 h6 h7 h8 h9 h10 h11 h12 h13 hs
                                go_enter Tryz.func116, Tryz.ntmps116
                                go_wp2_with (go_at_call 193; refine (HE _ _ _).out.mono ?_; rintro e w3 ⟨rfl, hb3⟩)
                                go_ret
                                first | exact ⟨ret_int (hv.out.symm : _ = swL (IB sg) vb), ((Below.refl _ _).alloc (Nat.le_refl _) _)⟩ | exact ⟨ret_int (hv.out.symm : _ = swL (IB sg) vb), ((Below.refl _ _).alloc (Nat.le_refl _) _).trans (hb3.mono (by simp))⟩
                              | false =>
                                have q0 : (s.toList == [97, 110, 100]) = false := by rw [hs, str_list]; exact h0
                                have q1 : (s.toList == [111, 114]) = false := by rw [hs, str_list]; exact h1
                                have q2 : (s.toList == [120, 111, 114]) = false := by rw [hs, str_list]; exact h2
                                have q3 : (s.toList == [115, 104, 108]) = false := by rw [hs, str_list]; exact h3
                                have q4 : (s.toList == [115, 104, 114]) = false := by rw [hs, str_list]; exact h4
                                have q5 : (s.toList == [97, 100, 100]) = false := by rw [hs, str_list]; exact h5
                                have q6 : (s.toList == [115, 117, 98]) = false := by rw [hs, str_list]; exact h6
                                have q7 : (s.toList == [109, 117, 108]) = false := by rw [hs, str_list]; exact h7
                                have q8 : (s.toList == [109, 105, 110]) = false := by rw [hs, str_list]; exact h8
                                have q9 : (s.toList == [109, 97, 120]) = false := by rw [hs, str_list]; exact h9
                                have q10 : (s.toList == [97, 100, 100, 95, 115, 97, 116]) = false := by rw [hs, str_list]; exact h10
                                have q11 : (s.toList == [115, 117, 98, 95, 115, 97, 116]) = false := by rw [hs, str_list]; exact h11
                                have q12 : (s.toList == [97, 118, 103, 114]) = false := by rw [hs, str_list]; exact h12
                                have q13 : (s.toList == [113, 49, 53, 109, 117, 108, 114, 95, 115, 97, 116]) = false := by rw [hs, str_list]; exact h13
                                have hv : Hid (swL (IB sg) vb = 0) := by simp [Hid, IB, swL, h0, h1, h2, h3, h4, h5, h6, h7, h8, h9, h10, h11, h12, h13]
                                clear h0 h1 h2 h3 h4 h5 h6 h7 h8 h9 h10 h11 h12 h13 hs
                                go_enter Tryz.func116, Tryz.ntmps116
                                go_wp2_with (go_at_call 193; refine (HE _ _ _).out.mono ?_; rintro e w3 ⟨rfl, hb3⟩)
                                go_ret
                                first | exact ⟨ret_int (hv.out.symm : _ = swL (IB sg) vb), ((Below.refl _ _).alloc (Nat.le_refl _) _)⟩ | exact ⟨ret_int (hv.out.symm : _ = swL (IB sg) vb), ((Below.refl _ _).alloc (Nat.le_refl _) _).trans (hb3.mono (by simp))⟩
end Go.Proofs.YtlhakbkdlgejpaaGreatDoor
namespace Go.Proofs.YtlhakbkdlgejpaaGreatDoor
open Go.RowKit
/-- A function value that works with two lanes. -/
def Does (g : Nat) (lb : Array Value) (f : Nat → Nat → Nat) (w : World) : Prop :=
  ∀ (W : World) (x y : Nat), Below w.heap.size w W → x < 18446744073709551616 → y < 18446744073709551616 →
    Calls Tryz.prog g (#[.int .u64 x, .int .u64 y] ++ lb) W fun e w' => e = .returned (.int .u64 (f x y : Nat)) ∧ Below W.heap.size W w'
def Two (g0 : Nat) (bits op : Int) (f : Nat → Nat → Nat) : Prop := ∀ (x y : Nat) (W : World), x < 18446744073709551616 → y < 18446744073709551616 →
  Calls Tryz.prog g0 #[.int .i64 bits, .int .i64 op, .int .u64 x, .int .u64 y] W fun e w' => (∃ c : Int, e = .returned (.tuple #[.int .u64 (f x y : Nat), .int .i64 c])) ∧ Below W.heap.size W w'
theorem clo_bin (g0 : Nat) (eg : ∀ args w, (callFunc g0 args).run Tryz.prog w = .ok (.enter g0 args) w) (bits op : Int) (f : Nat → Nat → Nat) (HB : Two g0 bits op f) (b1 b2 b3 : Nat) (w : World)
    (c1 : w.cell? ⟨b1, 0, none⟩ = some (.func (.func g0) #[] #[])) (c2 : w.cell? ⟨b2, 0, none⟩ = some (.int .i64 bits)) (c3 : w.cell? ⟨b3, 0, none⟩ = some (.int .i64 op)) :
    Does 117 #[.pointer (some ⟨b1, 0, none⟩), .pointer (some ⟨b2, 0, none⟩), .pointer (some ⟨b3, 0, none⟩)] f w := fun W x y hb hx hy => by
  have d1 := (hb.cell (p := ⟨b1, 0, none⟩) (World.block_lt_of_cell? _ _ c1)).trans c1
  have d2 := (hb.cell (p := ⟨b2, 0, none⟩) (World.block_lt_of_cell? _ _ c2)).trans c2
  have d3 := (hb.cell (p := ⟨b3, 0, none⟩) (World.block_lt_of_cell? _ _ c3)).trans c3
  have H := fun W => hid (HB x y W hx hy)
  show Calls Tryz.prog 117 #[.int .u64 x, .int .u64 y, .pointer (some ⟨b1, 0, none⟩), .pointer (some ⟨b2, 0, none⟩), .pointer (some ⟨b3, 0, none⟩)] W _
  clear HB c1 c2 c3 hb
  generalize f x y = r at *
  go_enter Tryz.func117, Tryz.ntmps117
  go_wp2_with (go_at_fn g0; refine (H _).out.mono ?_; rintro e w' ⟨⟨c, rfl⟩, hb⟩)
  go_ret
  exact ⟨rfl, hb⟩
end Go.Proofs.YtlhakbkdlgejpaaGreatDoor
namespace Go.Proofs.YtlhakbkdlgejpaaGreatDoor
open Go.RowKit
/-- A function value that works with two lanes as f does. -/
def FnPost (w : World) (f : Nat → Nat → Nat) (e : Ending) (w' : World) : Prop :=
  ∃ g lb, e = .returned (.func (.func g) #[] lb) ∧ Enters Tryz.prog g ∧ Does g lb f w' ∧ Below w.heap.size w w'
/-- What the closures capture lies behind w. -/
structure Keep (w w3 : World) (cs : Array Value) (v2 v3 v4 v5 : Value) : Prop where
  size : w.heap.size + 5 ≤ w3.heap.size
  below : Below w.heap.size w w3
  box : CA w.heap.size cs 50 w3
  c2 : w3.cell? ⟨w.heap.size + 1, 0, none⟩ = some v2
  c3 : w3.cell? ⟨w.heap.size + 2, 0, none⟩ = some v3
  c4 : w3.cell? ⟨w.heap.size + 3, 0, none⟩ = some v4
  c5 : w3.cell? ⟨w.heap.size + 4, 0, none⟩ = some v5
theorem Keep.to {w w3 w4 : World} {cs : Array Value} {v2 v3 v4 v5 : Value} (h : Keep w w3 cs v2 v3 v4 v5) (hb : Below w3.heap.size w3 w4) : Keep w w4 cs v2 v3 v4 v5 where
  size := Nat.le_trans h.size hb.size
  below := h.below.trans (hb.mono h.below.size)
  box := h.box.call hb
  c2 := (hb.cell (p := ⟨w.heap.size + 1, 0, none⟩) (World.block_lt_of_cell? _ _ h.c2)).trans h.c2
  c3 := (hb.cell (p := ⟨w.heap.size + 2, 0, none⟩) (World.block_lt_of_cell? _ _ h.c3)).trans h.c3
  c4 := (hb.cell (p := ⟨w.heap.size + 3, 0, none⟩) (World.block_lt_of_cell? _ _ h.c4)).trans h.c4
  c5 := (hb.cell (p := ⟨w.heap.size + 4, 0, none⟩) (World.block_lt_of_cell? _ _ h.c5)).trans h.c5
theorem Keep.next {w w3 w4 : World} {cs : Array Value} {v2 v3 v4 v5 : Value} {o : Obj} (h : Keep w w3 cs v2 v3 v4 v5) (hb : Below (w3.alloc o).heap.size (w3.alloc o) w4) : Keep w w4 cs v2 v3 v4 v5 :=
  (h.to ((Below.refl _ _).alloc (Nat.le_refl _) o)).to hb
theorem size_al (w : World) (o : Obj) : (w.alloc o).heap.size = w.heap.size + 1 := by simp
theorem keep_five (w : World) (cs : Array Value) (v2 v3 v4 v5 : Value) (t2 t3 t4 t5 : TypeId) : Keep w (((((w.alloc (.cells cs 50)).alloc (.cells #[v2] t2)).alloc (.cells #[v3] t3)).alloc (.cells #[v4] t4)).alloc (.cells #[v5] t5)) cs v2 v3 v4 v5 := by
  have n1 := ((((CA.new w cs 50).alloc (.cells #[v2] t2)).alloc (.cells #[v3] t3)).alloc (.cells #[v4] t4)).alloc (.cells #[v5] t5)
  have n2 := (((CA.new (w.alloc (.cells cs 50)) #[v2] t2).alloc (.cells #[v3] t3)).alloc (.cells #[v4] t4)).alloc (.cells #[v5] t5)
  have n3 := ((CA.new ((w.alloc (.cells cs 50)).alloc (.cells #[v2] t2)) #[v3] t3).alloc (.cells #[v4] t4)).alloc (.cells #[v5] t5)
  have n4 := (CA.new (((w.alloc (.cells cs 50)).alloc (.cells #[v2] t2)).alloc (.cells #[v3] t3)) #[v4] t4).alloc (.cells #[v5] t5)
  have n5 := CA.new ((((w.alloc (.cells cs 50)).alloc (.cells #[v2] t2)).alloc (.cells #[v3] t3)).alloc (.cells #[v4] t4)) #[v5] t5
  simp only [size_al] at n2 n3 n4 n5
  refine ⟨by simp only [size_al]; omega, ?_, n1, n2.at rfl, n3.at rfl, n4.at rfl, n5.at rfl⟩
  exact ((((((Below.refl _ w).alloc (Nat.le_refl _) _).alloc (by simp only [size_al]; omega) _).alloc (by simp only [size_al]; omega) _).alloc (by simp only [size_al]; omega) _).alloc (by simp only [size_al]; omega) _)
theorem keep_of {w w3 : World} {cs : Array Value} {v2 v3 v4 v5 : Value} {t2 t3 t4 t5 : TypeId} (hb : Below (((((w.alloc (.cells cs 50)).alloc (.cells #[v2] t2)).alloc (.cells #[v3] t3)).alloc (.cells #[v4] t4)).alloc (.cells #[v5] t5)).heap.size (((((w.alloc (.cells cs 50)).alloc (.cells #[v2] t2)).alloc (.cells #[v3] t3)).alloc (.cells #[v4] t4)).alloc (.cells #[v5] t5)) w3) : Keep w w3 cs v2 v3 v4 v5 :=
  (keep_five w cs v2 v3 v4 v5 t2 t3 t4 t5).to hb
set_option maxHeartbeats 4000000 in
set_option maxRecDepth 100000 in
theorem operation_bin_i (vb : List UInt8) (ff : Bool) (fb : Int) (tb : Int) (sg : Bool) (k : Int) (hu : swL IU vb = 0) (hr : swL (IR sg) vb = 0) (hb : swL (IB sg) vb = k) (f : Nat → Nat → Nat) (HB : Two 108 tb k f) (h0 : (vb == [110, 111, 116]) = false) (h1 : (vb == [97, 110, 100, 110, 111, 116]) = false) (w : World) :
    Calls Tryz.prog 72 #[insV vb ff fb false tb sg] w (FnPost w f) := by
  have HU := fun W => hid (unary_says vb ff fb false tb sg W)
  have HR := fun W => hid (relation_says vb ff fb false tb sg W)
  have HX := fun W => hid (binary_says vb ff fb false tb sg W)
  rw [show (if false = true then swL FU vb else swL IU vb) = swL IU vb from rfl, hu] at HU
  rw [show (if false = true then swL FR vb else swL (IR sg) vb) = swL (IR sg) vb from rfl, hr] at HR
  rw [show (if false = true then swL FB vb else swL (IB sg) vb) = swL (IB sg) vb from rfl, hb] at HX
  unfold insV at HU HR HX ⊢
  have hsf := fun (fn : Fn) (a : Addr) (w : World) => run_store Tryz.prog w a (.func fn #[] #[]) .plain rfl
  have hmf : ∀ (fn : Fn) (first cap : Array Value) (w : World), (Instr.makeFunc fn first cap).run Tryz.prog w = .ok (.func fn first cap) w := fun _ _ _ _ => rfl
  obtain ⟨s, hs⟩ : ∃ s, s = str vb := ⟨_, rfl⟩
  have q0 : (s.toList == [110, 111, 116]) = false := by rw [hs, str_list]; exact h0
  have q1 : (s.toList == [97, 110, 100, 110, 111, 116]) = false := by rw [hs, str_list]; exact h1
  rw [← hs] at HU HR HX ⊢
  have HBB := hid HB
  clear HB h0 h1 hs hu hr hb
  go_enter Tryz.func72, Tryz.ntmps72
  go_wp2_with (first
    | (go_at_call 112; refine (HU _).out.mono ?_; rintro e w3 ⟨rfl, hb3⟩; have HK3 := hid (keep_of hb3); have b0 := fun o => (HK3.out.box.alloc o).at (k := 0) (v := .string s) rfl; have b1 := fun o => (HK3.out.box.alloc o).at (k := 1) (v := .bool ff) rfl; have b2 := fun o => (HK3.out.box.alloc o).at (k := 2) (v := .int .i64 fb) rfl; have b3 := fun o => (HK3.out.box.alloc o).at (k := 3) rfl; have b4 := fun o => (HK3.out.box.alloc o).at (k := 4) (v := .int .i64 tb) rfl; have b5 := fun o => (HK3.out.box.alloc o).at (k := 5) (v := .bool sg) rfl; simp only [List.getElem_toArray, List.getElem_cons_zero, List.getElem_cons_succ] at b3; clear hb3)
    | (go_at_call 114; refine (HR _).out.mono ?_; rintro e w4 ⟨rfl, hb4⟩; have HK4 := hid (HK3.out.next hb4); clear b0 b1 b2 b3 b4 b5; have b0 := fun o => (HK4.out.box.alloc o).at (k := 0) (v := .string s) rfl; have b1 := fun o => (HK4.out.box.alloc o).at (k := 1) (v := .bool ff) rfl; have b2 := fun o => (HK4.out.box.alloc o).at (k := 2) (v := .int .i64 fb) rfl; have b3 := fun o => (HK4.out.box.alloc o).at (k := 3) rfl; have b4 := fun o => (HK4.out.box.alloc o).at (k := 4) (v := .int .i64 tb) rfl; have b5 := fun o => (HK4.out.box.alloc o).at (k := 5) (v := .bool sg) rfl; simp only [List.getElem_toArray, List.getElem_cons_zero, List.getElem_cons_succ] at b3; clear hb4)
    | (go_at_call 116; refine (HX _).out.mono ?_; rintro e w5 ⟨rfl, hb5⟩; have HK5 := hid (HK4.out.next hb5); clear b0 b1 b2 b3 b4 b5; clear hb5))
  go_ret
  have HL := HK5.out.to ((Below.refl _ _).alloc (Nat.le_refl _) (.cells #[.int .i64 k] 3))
  refine ⟨117, _, rfl, enters_of Tryz.func117 (by kernel_rfl) rfl, clo_bin 108 (enters_of Tryz.func108 (by kernel_rfl) rfl) tb k f HBB.out (w.heap.size + 4) (w.heap.size + 1) w5.heap.size _ HL.c5 HL.c2 ((CA.new _ _ _).at rfl), HL.below⟩
end Go.Proofs.YtlhakbkdlgejpaaGreatDoor
