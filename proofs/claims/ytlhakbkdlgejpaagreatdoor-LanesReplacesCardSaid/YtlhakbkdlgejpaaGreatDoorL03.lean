/-
  LSwB, LClo: merged (each text says what it holds where it lies in wip). No condition.
-/
import Derived.Test.YtlhakbkdlgejpaaGreatDoorL02
import Derived.Test.YtlhakbkdlgejpaaGreatDoorB02
import Derived.Test.YtlhakbkdlgejpaaGreatDoorI01
import Derived.Shelf.Abstract
set_option linter.unusedSimpArgs false
set_option linter.unusedVariables false
set_option maxRecDepth 100000
namespace Go.Proofs.YtlhakbkdlgejpaaGreatDoor
open Go.RowKit

set_option maxHeartbeats 4000000 in
set_option maxRecDepth 100000 in
theorem binary_says (vb : List UInt8) (ff : Bool) (fb : Int) (tf : Bool) (tb : Int) (sg : Bool) (w : World) : Calls Tryz.prog 116 #[insV vb ff fb tf tb sg] w fun e w' => e = .returned (.int .i64 (if tf then swL FB vb else swL (IB sg) vb)) ∧ Below w.heap.size w w' := by
  unfold insV
  obtain ⟨s, hs⟩ : ∃ s, s = str vb := ⟨_, rfl⟩
  have HF := fun W => hid (floatBinary_says vb W)
  have HE := fun a b W => hid (either_says vb ff fb tf tb sg a b W)
  unfold insV at HE
  rw [← hs] at HF HE ⊢
  cases tf with
  | true =>
    have hv : Hid ((if true then swL FB vb else swL (IB sg) vb) = swL FB vb) := rfl
    generalize swL FB vb = r at *
    clear hs
    go_enter Tryz.func116, Tryz.ntmps116
    go_wp2_with (go_at_call 194; refine (HF _).out.mono ?_; rintro e w3 ⟨rfl, rfl⟩)
    go_ret
    exact ⟨ret_int hv.out.symm, (Below.refl _ _).alloc (Nat.le_refl _) _⟩
  | false =>
    cases h0 : (vb == [97, 110, 100]) with
    | true =>
      have q0 : (s.toList == [97, 110, 100]) = true := by rw [hs, str_list]; exact h0
      have hv : Hid (swL (IB sg) vb = 8) := by simp [Hid, IB, swL, h0]
      clear h0 hs
      go_enter Tryz.func116, Tryz.ntmps116
      go_wp2_with (go_at_call 193; refine (HE _ _ _).out.mono ?_; rintro e w3 ⟨rfl, hb3⟩)
      go_ret
      first | exact ⟨ret_int (hv.out.symm : _ = swL (IB sg) vb), ((Below.refl _ _).alloc (Nat.le_refl _) _)⟩ | exact ⟨ret_int (hv.out.symm : _ = swL (IB sg) vb), ((Below.refl _ _).alloc (Nat.le_refl _) _).trans (hb3.mono (by simp))⟩
    | false =>
      cases h1 : (vb == [111, 114]) with
      | true =>
        have q0 : (s.toList == [97, 110, 100]) = false := by rw [hs, str_list]; exact h0
        have q1 : (s.toList == [111, 114]) = true := by rw [hs, str_list]; exact h1
        have hv : Hid (swL (IB sg) vb = 9) := by simp [Hid, IB, swL, h0, h1]
        clear h0 h1 hs
        go_enter Tryz.func116, Tryz.ntmps116
        go_wp2_with (go_at_call 193; refine (HE _ _ _).out.mono ?_; rintro e w3 ⟨rfl, hb3⟩)
        go_ret
        first | exact ⟨ret_int (hv.out.symm : _ = swL (IB sg) vb), ((Below.refl _ _).alloc (Nat.le_refl _) _)⟩ | exact ⟨ret_int (hv.out.symm : _ = swL (IB sg) vb), ((Below.refl _ _).alloc (Nat.le_refl _) _).trans (hb3.mono (by simp))⟩
      | false =>
        cases h2 : (vb == [120, 111, 114]) with
        | true =>
          have q0 : (s.toList == [97, 110, 100]) = false := by rw [hs, str_list]; exact h0
          have q1 : (s.toList == [111, 114]) = false := by rw [hs, str_list]; exact h1
          have q2 : (s.toList == [120, 111, 114]) = true := by rw [hs, str_list]; exact h2
          have hv : Hid (swL (IB sg) vb = 10) := by simp [Hid, IB, swL, h0, h1, h2]
          clear h0 h1 h2 hs
          go_enter Tryz.func116, Tryz.ntmps116
          go_wp2_with (go_at_call 193; refine (HE _ _ _).out.mono ?_; rintro e w3 ⟨rfl, hb3⟩)
          go_ret
          first | exact ⟨ret_int (hv.out.symm : _ = swL (IB sg) vb), ((Below.refl _ _).alloc (Nat.le_refl _) _)⟩ | exact ⟨ret_int (hv.out.symm : _ = swL (IB sg) vb), ((Below.refl _ _).alloc (Nat.le_refl _) _).trans (hb3.mono (by simp))⟩
        | false =>
          cases h3 : (vb == [115, 104, 108]) with
          | true =>
            have q0 : (s.toList == [97, 110, 100]) = false := by rw [hs, str_list]; exact h0
            have q1 : (s.toList == [111, 114]) = false := by rw [hs, str_list]; exact h1
            have q2 : (s.toList == [120, 111, 114]) = false := by rw [hs, str_list]; exact h2
            have q3 : (s.toList == [115, 104, 108]) = true := by rw [hs, str_list]; exact h3
            have hv : Hid (swL (IB sg) vb = 11) := by simp [Hid, IB, swL, h0, h1, h2, h3]
            clear h0 h1 h2 h3 hs
            go_enter Tryz.func116, Tryz.ntmps116
            go_wp2_with (go_at_call 193; refine (HE _ _ _).out.mono ?_; rintro e w3 ⟨rfl, hb3⟩)
            go_ret
            first | exact ⟨ret_int (hv.out.symm : _ = swL (IB sg) vb), ((Below.refl _ _).alloc (Nat.le_refl _) _)⟩ | exact ⟨ret_int (hv.out.symm : _ = swL (IB sg) vb), ((Below.refl _ _).alloc (Nat.le_refl _) _).trans (hb3.mono (by simp))⟩
          | false =>
            cases h4 : (vb == [115, 104, 114]) with
            | true =>
              have q0 : (s.toList == [97, 110, 100]) = false := by rw [hs, str_list]; exact h0
              have q1 : (s.toList == [111, 114]) = false := by rw [hs, str_list]; exact h1
              have q2 : (s.toList == [120, 111, 114]) = false := by rw [hs, str_list]; exact h2
              have q3 : (s.toList == [115, 104, 108]) = false := by rw [hs, str_list]; exact h3
              have q4 : (s.toList == [115, 104, 114]) = true := by rw [hs, str_list]; exact h4
              have hv : Hid (swL (IB sg) vb = (ei sg 12 13)) := by simp [Hid, IB, swL, h0, h1, h2, h3, h4]
              clear h0 h1 h2 h3 h4 hs
              go_enter Tryz.func116, Tryz.ntmps116
              go_wp2_with (go_at_call 193; refine (HE _ _ _).out.mono ?_; rintro e w3 ⟨rfl, hb3⟩)
              go_ret
              first | exact ⟨ret_int (hv.out.symm : _ = swL (IB sg) vb), ((Below.refl _ _).alloc (Nat.le_refl _) _)⟩ | exact ⟨ret_int (hv.out.symm : _ = swL (IB sg) vb), ((Below.refl _ _).alloc (Nat.le_refl _) _).trans (hb3.mono (by simp))⟩
            | false =>
              cases h5 : (vb == [97, 100, 100]) with
              | true =>
                have q0 : (s.toList == [97, 110, 100]) = false := by rw [hs, str_list]; exact h0
                have q1 : (s.toList == [111, 114]) = false := by rw [hs, str_list]; exact h1
                have q2 : (s.toList == [120, 111, 114]) = false := by rw [hs, str_list]; exact h2
                have q3 : (s.toList == [115, 104, 108]) = false := by rw [hs, str_list]; exact h3
                have q4 : (s.toList == [115, 104, 114]) = false := by rw [hs, str_list]; exact h4
                have q5 : (s.toList == [97, 100, 100]) = true := by rw [hs, str_list]; exact h5
                have hv : Hid (swL (IB sg) vb = 1) := by simp [Hid, IB, swL, h0, h1, h2, h3, h4, h5]
                clear h0 h1 h2 h3 h4 h5 hs
                go_enter Tryz.func116, Tryz.ntmps116
                go_wp2_with (go_at_call 193; refine (HE _ _ _).out.mono ?_; rintro e w3 ⟨rfl, hb3⟩)
                go_ret
                first | exact ⟨ret_int (hv.out.symm : _ = swL (IB sg) vb), ((Below.refl _ _).alloc (Nat.le_refl _) _)⟩ | exact ⟨ret_int (hv.out.symm : _ = swL (IB sg) vb), ((Below.refl _ _).alloc (Nat.le_refl _) _).trans (hb3.mono (by simp))⟩
              | false =>
                cases h6 : (vb == [115, 117, 98]) with
                | true =>
                  have q0 : (s.toList == [97, 110, 100]) = false := by rw [hs, str_list]; exact h0
                  have q1 : (s.toList == [111, 114]) = false := by rw [hs, str_list]; exact h1
                  have q2 : (s.toList == [120, 111, 114]) = false := by rw [hs, str_list]; exact h2
                  have q3 : (s.toList == [115, 104, 108]) = false := by rw [hs, str_list]; exact h3
                  have q4 : (s.toList == [115, 104, 114]) = false := by rw [hs, str_list]; exact h4
                  have q5 : (s.toList == [97, 100, 100]) = false := by rw [hs, str_list]; exact h5
                  have q6 : (s.toList == [115, 117, 98]) = true := by rw [hs, str_list]; exact h6
                  have hv : Hid (swL (IB sg) vb = 2) := by simp [Hid, IB, swL, h0, h1, h2, h3, h4, h5, h6]
                  clear h0 h1 h2 h3 h4 h5 h6 hs
                  go_enter Tryz.func116, Tryz.ntmps116
                  go_wp2_with (go_at_call 193; refine (HE _ _ _).out.mono ?_; rintro e w3 ⟨rfl, hb3⟩)
                  go_ret
                  first | exact ⟨ret_int (hv.out.symm : _ = swL (IB sg) vb), ((Below.refl _ _).alloc (Nat.le_refl _) _)⟩ | exact ⟨ret_int (hv.out.symm : _ = swL (IB sg) vb), ((Below.refl _ _).alloc (Nat.le_refl _) _).trans (hb3.mono (by simp))⟩
                | false =>
                  cases h7 : (vb == [109, 117, 108]) with
                  | true =>
                    have q0 : (s.toList == [97, 110, 100]) = false := by rw [hs, str_list]; exact h0
                    have q1 : (s.toList == [111, 114]) = false := by rw [hs, str_list]; exact h1
                    have q2 : (s.toList == [120, 111, 114]) = false := by rw [hs, str_list]; exact h2
                    have q3 : (s.toList == [115, 104, 108]) = false := by rw [hs, str_list]; exact h3
                    have q4 : (s.toList == [115, 104, 114]) = false := by rw [hs, str_list]; exact h4
                    have q5 : (s.toList == [97, 100, 100]) = false := by rw [hs, str_list]; exact h5
                    have q6 : (s.toList == [115, 117, 98]) = false := by rw [hs, str_list]; exact h6
                    have q7 : (s.toList == [109, 117, 108]) = true := by rw [hs, str_list]; exact h7
                    have hv : Hid (swL (IB sg) vb = 3) := by simp [Hid, IB, swL, h0, h1, h2, h3, h4, h5, h6, h7]
                    clear h0 h1 h2 h3 h4 h5 h6 h7 hs
                    go_enter Tryz.func116, Tryz.ntmps116
                    go_wp2_with (go_at_call 193; refine (HE _ _ _).out.mono ?_; rintro e w3 ⟨rfl, hb3⟩)
                    go_ret
                    first | exact ⟨ret_int (hv.out.symm : _ = swL (IB sg) vb), ((Below.refl _ _).alloc (Nat.le_refl _) _)⟩ | exact ⟨ret_int (hv.out.symm : _ = swL (IB sg) vb), ((Below.refl _ _).alloc (Nat.le_refl _) _).trans (hb3.mono (by simp))⟩
                  | false =>
                    cases h8 : (vb == [109, 105, 110]) with
                    | true =>
                      have q0 : (s.toList == [97, 110, 100]) = false := by rw [hs, str_list]; exact h0
                      have q1 : (s.toList == [111, 114]) = false := by rw [hs, str_list]; exact h1
                      have q2 : (s.toList == [120, 111, 114]) = false := by rw [hs, str_list]; exact h2
                      have q3 : (s.toList == [115, 104, 108]) = false := by rw [hs, str_list]; exact h3
                      have q4 : (s.toList == [115, 104, 114]) = false := by rw [hs, str_list]; exact h4
                      have q5 : (s.toList == [97, 100, 100]) = false := by rw [hs, str_list]; exact h5
                      have q6 : (s.toList == [115, 117, 98]) = false := by rw [hs, str_list]; exact h6
                      have q7 : (s.toList == [109, 117, 108]) = false := by rw [hs, str_list]; exact h7
                      have q8 : (s.toList == [109, 105, 110]) = true := by rw [hs, str_list]; exact h8
                      have hv : Hid (swL (IB sg) vb = (ei sg 20 21)) := by simp [Hid, IB, swL, h0, h1, h2, h3, h4, h5, h6, h7, h8]
                      clear h0 h1 h2 h3 h4 h5 h6 h7 h8 hs
                      go_enter Tryz.func116, Tryz.ntmps116
                      go_wp2_with (go_at_call 193; refine (HE _ _ _).out.mono ?_; rintro e w3 ⟨rfl, hb3⟩)
                      go_ret
                      first | exact ⟨ret_int (hv.out.symm : _ = swL (IB sg) vb), ((Below.refl _ _).alloc (Nat.le_refl _) _)⟩ | exact ⟨ret_int (hv.out.symm : _ = swL (IB sg) vb), ((Below.refl _ _).alloc (Nat.le_refl _) _).trans (hb3.mono (by simp))⟩
                    | false =>
                      cases h9 : (vb == [109, 97, 120]) with
                      | true =>
                        have q0 : (s.toList == [97, 110, 100]) = false := by rw [hs, str_list]; exact h0
                        have q1 : (s.toList == [111, 114]) = false := by rw [hs, str_list]; exact h1
                        have q2 : (s.toList == [120, 111, 114]) = false := by rw [hs, str_list]; exact h2
                        have q3 : (s.toList == [115, 104, 108]) = false := by rw [hs, str_list]; exact h3
                        have q4 : (s.toList == [115, 104, 114]) = false := by rw [hs, str_list]; exact h4
                        have q5 : (s.toList == [97, 100, 100]) = false := by rw [hs, str_list]; exact h5
                        have q6 : (s.toList == [115, 117, 98]) = false := by rw [hs, str_list]; exact h6
                        have q7 : (s.toList == [109, 117, 108]) = false := by rw [hs, str_list]; exact h7
                        have q8 : (s.toList == [109, 105, 110]) = false := by rw [hs, str_list]; exact h8
                        have q9 : (s.toList == [109, 97, 120]) = true := by rw [hs, str_list]; exact h9
                        have hv : Hid (swL (IB sg) vb = (ei sg 22 23)) := by simp [Hid, IB, swL, h0, h1, h2, h3, h4, h5, h6, h7, h8, h9]
                        clear h0 h1 h2 h3 h4 h5 h6 h7 h8 h9 hs
                        go_enter Tryz.func116, Tryz.ntmps116
                        go_wp2_with (go_at_call 193; refine (HE _ _ _).out.mono ?_; rintro e w3 ⟨rfl, hb3⟩)
                        go_ret
                        first | exact ⟨ret_int (hv.out.symm : _ = swL (IB sg) vb), ((Below.refl _ _).alloc (Nat.le_refl _) _)⟩ | exact ⟨ret_int (hv.out.symm : _ = swL (IB sg) vb), ((Below.refl _ _).alloc (Nat.le_refl _) _).trans (hb3.mono (by simp))⟩
                      | false =>
                        cases h10 : (vb == [97, 100, 100, 95, 115, 97, 116]) with
                        | true =>
                          have q0 : (s.toList == [97, 110, 100]) = false := by rw [hs, str_list]; exact h0
                          have q1 : (s.toList == [111, 114]) = false := by rw [hs, str_list]; exact h1
                          have q2 : (s.toList == [120, 111, 114]) = false := by rw [hs, str_list]; exact h2
                          have q3 : (s.toList == [115, 104, 108]) = false := by rw [hs, str_list]; exact h3
                          have q4 : (s.toList == [115, 104, 114]) = false := by rw [hs, str_list]; exact h4
                          have q5 : (s.toList == [97, 100, 100]) = false := by rw [hs, str_list]; exact h5
                          have q6 : (s.toList == [115, 117, 98]) = false := by rw [hs, str_list]; exact h6
                          have q7 : (s.toList == [109, 117, 108]) = false := by rw [hs, str_list]; exact h7
                          have q8 : (s.toList == [109, 105, 110]) = false := by rw [hs, str_list]; exact h8
                          have q9 : (s.toList == [109, 97, 120]) = false := by rw [hs, str_list]; exact h9
                          have q10 : (s.toList == [97, 100, 100, 95, 115, 97, 116]) = true := by rw [hs, str_list]; exact h10
                          have hv : Hid (swL (IB sg) vb = (ei sg 16 17)) := by simp [Hid, IB, swL, h0, h1, h2, h3, h4, h5, h6, h7, h8, h9, h10]
                          clear h0 h1 h2 h3 h4 h5 h6 h7 h8 h9 h10 hs
                          go_enter Tryz.func116, Tryz.ntmps116
                          go_wp2_with (go_at_call 193; refine (HE _ _ _).out.mono ?_; rintro e w3 ⟨rfl, hb3⟩)
                          go_ret
                          first | exact ⟨ret_int (hv.out.symm : _ = swL (IB sg) vb), ((Below.refl _ _).alloc (Nat.le_refl _) _)⟩ | exact ⟨ret_int (hv.out.symm : _ = swL (IB sg) vb), ((Below.refl _ _).alloc (Nat.le_refl _) _).trans (hb3.mono (by simp))⟩
                        | false =>
                          cases h11 : (vb == [115, 117, 98, 95, 115, 97, 116]) with
                          | true =>
                            have q0 : (s.toList == [97, 110, 100]) = false := by rw [hs, str_list]; exact h0
                            have q1 : (s.toList == [111, 114]) = false := by rw [hs, str_list]; exact h1
                            have q2 : (s.toList == [120, 111, 114]) = false := by rw [hs, str_list]; exact h2
                            have q3 : (s.toList == [115, 104, 108]) = false := by rw [hs, str_list]; exact h3
                            have q4 : (s.toList == [115, 104, 114]) = false := by rw [hs, str_list]; exact h4
                            have q5 : (s.toList == [97, 100, 100]) = false := by rw [hs, str_list]; exact h5
                            have q6 : (s.toList == [115, 117, 98]) = false := by rw [hs, str_list]; exact h6
                            have q7 : (s.toList == [109, 117, 108]) = false := by rw [hs, str_list]; exact h7
                            have q8 : (s.toList == [109, 105, 110]) = false := by rw [hs, str_list]; exact h8
                            have q9 : (s.toList == [109, 97, 120]) = false := by rw [hs, str_list]; exact h9
                            have q10 : (s.toList == [97, 100, 100, 95, 115, 97, 116]) = false := by rw [hs, str_list]; exact h10
                            have q11 : (s.toList == [115, 117, 98, 95, 115, 97, 116]) = true := by rw [hs, str_list]; exact h11
                            have hv : Hid (swL (IB sg) vb = (ei sg 18 19)) := by simp [Hid, IB, swL, h0, h1, h2, h3, h4, h5, h6, h7, h8, h9, h10, h11]
                            clear h0 h1 h2 h3 h4 h5 h6 h7 h8 h9 h10 h11 hs
                            go_enter Tryz.func116, Tryz.ntmps116
                            go_wp2_with (go_at_call 193; refine (HE _ _ _).out.mono ?_; rintro e w3 ⟨rfl, hb3⟩)
                            go_ret
                            first | exact ⟨ret_int (hv.out.symm : _ = swL (IB sg) vb), ((Below.refl _ _).alloc (Nat.le_refl _) _)⟩ | exact ⟨ret_int (hv.out.symm : _ = swL (IB sg) vb), ((Below.refl _ _).alloc (Nat.le_refl _) _).trans (hb3.mono (by simp))⟩
                          | false =>
                            cases h12 : (vb == [97, 118, 103, 114]) with
                            | true =>
                              have q0 : (s.toList == [97, 110, 100]) = false := by rw [hs, str_list]; exact h0
                              have q1 : (s.toList == [111, 114]) = false := by rw [hs, str_list]; exact h1
                              have q2 : (s.toList == [120, 111, 114]) = false := by rw [hs, str_list]; exact h2
                              have q3 : (s.toList == [115, 104, 108]) = false := by rw [hs, str_list]; exact h3
                              have q4 : (s.toList == [115, 104, 114]) = false := by rw [hs, str_list]; exact h4
                              have q5 : (s.toList == [97, 100, 100]) = false := by rw [hs, str_list]; exact h5
                              have q6 : (s.toList == [115, 117, 98]) = false := by rw [hs, str_list]; exact h6
                              have q7 : (s.toList == [109, 117, 108]) = false := by rw [hs, str_list]; exact h7
                              have q8 : (s.toList == [109, 105, 110]) = false := by rw [hs, str_list]; exact h8
                              have q9 : (s.toList == [109, 97, 120]) = false := by rw [hs, str_list]; exact h9
                              have q10 : (s.toList == [97, 100, 100, 95, 115, 97, 116]) = false := by rw [hs, str_list]; exact h10
                              have q11 : (s.toList == [115, 117, 98, 95, 115, 97, 116]) = false := by rw [hs, str_list]; exact h11
                              have q12 : (s.toList == [97, 118, 103, 114]) = true := by rw [hs, str_list]; exact h12
                              have hv : Hid (swL (IB sg) vb = 24) := by simp [Hid, IB, swL, h0, h1, h2, h3, h4, h5, h6, h7, h8, h9, h10, h11, h12]
                              clear h0 h1 h2 h3 h4 h5 h6 h7 h8 h9 h10 h11 h12 hs
                              go_enter Tryz.func116, Tryz.ntmps116
                              go_wp2_with (go_at_call 193; refine (HE _ _ _).out.mono ?_; rintro e w3 ⟨rfl, hb3⟩)
                              go_ret
                              first | exact ⟨ret_int (hv.out.symm : _ = swL (IB sg) vb), ((Below.refl _ _).alloc (Nat.le_refl _) _)⟩ | exact ⟨ret_int (hv.out.symm : _ = swL (IB sg) vb), ((Below.refl _ _).alloc (Nat.le_refl _) _).trans (hb3.mono (by simp))⟩
                            | false =>
                              cases h13 : (vb == [113, 49, 53, 109, 117, 108, 114, 95, 115, 97, 116]) with
                              | true =>
                                have q0 : (s.toList == [97, 110, 100]) = false := by rw [hs, str_list]; exact h0
                                have q1 : (s.toList == [111, 114]) = false := by rw [hs, str_list]; exact h1
                                have q2 : (s.toList == [120, 111, 114]) = false := by rw [hs, str_list]; exact h2
                                have q3 : (s.toList == [115, 104, 108]) = false := by rw [hs, str_list]; exact h3
                                have q4 : (s.toList == [115, 104, 114]) = false := by rw [hs, str_list]; exact h4
                                have q5 : (s.toList == [97, 100, 100]) = false := by rw [hs, str_list]; exact h5
                                have q6 : (s.toList == [115, 117, 98]) = false := by rw [hs, str_list]; exact h6
                                have q7 : (s.toList == [109, 117, 108]) = false := by rw [hs, str_list]; exact h7
                                have q8 : (s.toList == [109, 105, 110]) = false := by rw [hs, str_list]; exact h8
                                have q9 : (s.toList == [109, 97, 120]) = false := by rw [hs, str_list]; exact h9
                                have q10 : (s.toList == [97, 100, 100, 95, 115, 97, 116]) = false := by rw [hs, str_list]; exact h10
                                have q11 : (s.toList == [115, 117, 98, 95, 115, 97, 116]) = false := by rw [hs, str_list]; exact h11
                                have q12 : (s.toList == [97, 118, 103, 114]) = false := by rw [hs, str_list]; exact h12
                                have q13 : (s.toList == [113, 49, 53, 109, 117, 108, 114, 95, 115, 97, 116]) = true := by rw [hs, str_list]; exact h13
                                have hv : Hid (swL (IB sg) vb = 25) := by simp [Hid, IB, swL, h0, h1, h2, h3, h4, h5, h6, h7, h8, h9, h10, h11, h12, h13]
                                clear h0 h1 h2 h3 h4 h5 h6 h7 h8 h9 h10 h11 h12 h13 hs
                                go_enter Tryz.func116, Tryz.ntmps116
                                go_wp2_with (go_at_call 193; refine (HE _ _ _).out.mono ?_; rintro e w3 ⟨rfl, hb3⟩)
                                go_ret
                                first | exact ⟨ret_int (hv.out.symm : _ = swL (IB sg) vb), ((Below.refl _ _).alloc (Nat.le_refl _) _)⟩ | exact ⟨ret_int (hv.out.symm : _ = swL (IB sg) vb), ((Below.refl _ _).alloc (Nat.le_refl _) _).trans (hb3.mono (by simp))⟩
                              | false =>
                                have q0 : (s.toList == [97, 110, 100]) = false := by rw [hs, str_list]; exact h0
                                have q1 : (s.toList == [111, 114]) = false := by rw [hs, str_list]; exact h1
                                have q2 : (s.toList == [120, 111, 114]) = false := by rw [hs, str_list]; exact h2
                                have q3 : (s.toList == [115, 104, 108]) = false := by rw [hs, str_list]; exact h3
                                have q4 : (s.toList == [115, 104, 114]) = false := by rw [hs, str_list]; exact h4
                                have q5 : (s.toList == [97, 100, 100]) = false := by rw [hs, str_list]; exact h5
                                have q6 : (s.toList == [115, 117, 98]) = false := by rw [hs, str_list]; exact h6
                                have q7 : (s.toList == [109, 117, 108]) = false := by rw [hs, str_list]; exact h7
                                have q8 : (s.toList == [109, 105, 110]) = false := by rw [hs, str_list]; exact h8
                                have q9 : (s.toList == [109, 97, 120]) = false := by rw [hs, str_list]; exact h9
                                have q10 : (s.toList == [97, 100, 100, 95, 115, 97, 116]) = false := by rw [hs, str_list]; exact h10
                                have q11 : (s.toList == [115, 117, 98, 95, 115, 97, 116]) = false := by rw [hs, str_list]; exact h11
                                have q12 : (s.toList == [97, 118, 103, 114]) = false := by rw [hs, str_list]; exact h12
                                have q13 : (s.toList == [113, 49, 53, 109, 117, 108, 114, 95, 115, 97, 116]) = false := by rw [hs, str_list]; exact h13
                                have hv : Hid (swL (IB sg) vb = 0) := by simp [Hid, IB, swL, h0, h1, h2, h3, h4, h5, h6, h7, h8, h9, h10, h11, h12, h13]
                                clear h0 h1 h2 h3 h4 h5 h6 h7 h8 h9 h10 h11 h12 h13 hs
                                go_enter Tryz.func116, Tryz.ntmps116
                                go_wp2_with (go_at_call 193; refine (HE _ _ _).out.mono ?_; rintro e w3 ⟨rfl, hb3⟩)
                                go_ret
                                first | exact ⟨ret_int (hv.out.symm : _ = swL (IB sg) vb), ((Below.refl _ _).alloc (Nat.le_refl _) _)⟩ | exact ⟨ret_int (hv.out.symm : _ = swL (IB sg) vb), ((Below.refl _ _).alloc (Nat.le_refl _) _).trans (hb3.mono (by simp))⟩
end Go.Proofs.YtlhakbkdlgejpaaGreatDoor
namespace Go.Proofs.YtlhakbkdlgejpaaGreatDoor
open Go.RowKit

/-- A function value that works with two lanes. -/
def Does (g : Nat) (lb : Array Value) (f : Nat → Nat → Nat) (w : World) : Prop :=
  ∀ (W : World) (x y : Nat), Below w.heap.size w W → x < 18446744073709551616 → y < 18446744073709551616 →
    Calls Tryz.prog g (#[.int .u64 x, .int .u64 y] ++ lb) W fun e w' => e = .returned (.int .u64 (f x y : Nat)) ∧ Below W.heap.size W w'
theorem Does.later {g : Nat} {lb : Array Value} {f : Nat → Nat → Nat} {w W : World} (h : Does g lb f w) (hb : Below w.heap.size w W) : Does g lb f W :=
  fun W' x y hb' => h W' x y (hb.trans (hb'.mono hb.size))

def Two (g0 : Nat) (bits op : Int) (f : Nat → Nat → Nat) : Prop := ∀ (x y : Nat) (W : World), x < 18446744073709551616 → y < 18446744073709551616 →
  Calls Tryz.prog g0 #[.int .i64 bits, .int .i64 op, .int .u64 x, .int .u64 y] W fun e w' => (∃ c : Int, e = .returned (.tuple #[.int .u64 (f x y : Nat), .int .i64 c])) ∧ Below W.heap.size W w'
def One (g0 : Nat) (bits op : Int) (f : Nat → Nat) : Prop := ∀ (x : Nat) (W : World), x < 18446744073709551616 →
  Calls Tryz.prog g0 #[.int .i64 bits, .int .i64 op, .int .u64 x] W fun e w' => (∃ c : Int, e = .returned (.tuple #[.int .u64 (f x : Nat), .int .i64 c])) ∧ Below W.heap.size W w'
def Rel2 (g0 : Nat) (bits op : Int) (f : Nat → Nat → Bool) : Prop := ∀ (x y : Nat) (W : World), x < 18446744073709551616 → y < 18446744073709551616 →
  Calls Tryz.prog g0 #[.int .i64 bits, .int .i64 op, .int .u64 x, .int .u64 y] W fun e w' => (∃ c : Int, e = .returned (.tuple #[.bool (f x y), .int .i64 c])) ∧ Below W.heap.size W w'

theorem clo_bin (g0 : Nat) (eg : ∀ args w, (callFunc g0 args).run Tryz.prog w = .ok (.enter g0 args) w) (bits op : Int) (f : Nat → Nat → Nat) (HB : Two g0 bits op f) (b1 b2 b3 : Nat) (w : World)
    (c1 : w.cell? ⟨b1, 0, none⟩ = some (.func (.func g0) #[] #[])) (c2 : w.cell? ⟨b2, 0, none⟩ = some (.int .i64 bits)) (c3 : w.cell? ⟨b3, 0, none⟩ = some (.int .i64 op)) :
    Does 117 #[.pointer (some ⟨b1, 0, none⟩), .pointer (some ⟨b2, 0, none⟩), .pointer (some ⟨b3, 0, none⟩)] f w := fun W x y hb hx hy => by
  have d1 := (hb.cell (p := ⟨b1, 0, none⟩) (World.block_lt_of_cell? _ _ c1)).trans c1
  have d2 := (hb.cell (p := ⟨b2, 0, none⟩) (World.block_lt_of_cell? _ _ c2)).trans c2
  have d3 := (hb.cell (p := ⟨b3, 0, none⟩) (World.block_lt_of_cell? _ _ c3)).trans c3
  have H := fun W => hid (HB x y W hx hy)
  show Calls Tryz.prog 117 #[.int .u64 x, .int .u64 y, .pointer (some ⟨b1, 0, none⟩), .pointer (some ⟨b2, 0, none⟩), .pointer (some ⟨b3, 0, none⟩)] W _
  clear HB c1 c2 c3 hb
  generalize f x y = r at *
  go_enter Tryz.func117, Tryz.ntmps117
  go_wp2_with (go_at_fn g0; refine (H _).out.mono ?_; rintro e w' ⟨⟨c, rfl⟩, hb⟩)
  go_ret
  exact ⟨rfl, hb⟩
theorem clo_un (g0 : Nat) (eg : ∀ args w, (callFunc g0 args).run Tryz.prog w = .ok (.enter g0 args) w) (bits op : Int) (f : Nat → Nat) (HB : One g0 bits op f) (b1 b2 b3 : Nat) (w : World)
    (c1 : w.cell? ⟨b1, 0, none⟩ = some (.func (.func g0) #[] #[])) (c2 : w.cell? ⟨b2, 0, none⟩ = some (.int .i64 bits)) (c3 : w.cell? ⟨b3, 0, none⟩ = some (.int .i64 op)) :
    Does 113 #[.pointer (some ⟨b1, 0, none⟩), .pointer (some ⟨b2, 0, none⟩), .pointer (some ⟨b3, 0, none⟩)] (fun x _ => f x) w := fun W x y hb hx hy => by
  have d1 := (hb.cell (p := ⟨b1, 0, none⟩) (World.block_lt_of_cell? _ _ c1)).trans c1
  have d2 := (hb.cell (p := ⟨b2, 0, none⟩) (World.block_lt_of_cell? _ _ c2)).trans c2
  have d3 := (hb.cell (p := ⟨b3, 0, none⟩) (World.block_lt_of_cell? _ _ c3)).trans c3
  have H := fun W => hid (HB x W hx)
  show Calls Tryz.prog 113 #[.int .u64 x, .int .u64 y, .pointer (some ⟨b1, 0, none⟩), .pointer (some ⟨b2, 0, none⟩), .pointer (some ⟨b3, 0, none⟩)] W _
  clear HB c1 c2 c3 hb
  show Calls _ _ _ _ fun e w' => e = .returned (.int .u64 (f x : Nat)) ∧ _
  generalize f x = r at *
  go_enter Tryz.func113, Tryz.ntmps113
  go_wp2_with (go_at_fn g0; refine (H _).out.mono ?_; rintro e w' ⟨⟨c, rfl⟩, hb⟩)
  go_ret
  exact ⟨rfl, hb⟩
theorem clo_rel (g0 : Nat) (eg : ∀ args w, (callFunc g0 args).run Tryz.prog w = .ok (.enter g0 args) w) (bits op : Int) (f : Nat → Nat → Bool) (HB : Rel2 g0 bits op f) (b1 b2 b3 : Nat) (w : World)
    (c1 : w.cell? ⟨b1, 0, none⟩ = some (.func (.func g0) #[] #[])) (c2 : w.cell? ⟨b2, 0, none⟩ = some (.int .i64 bits)) (c3 : w.cell? ⟨b3, 0, none⟩ = some (.int .i64 op)) :
    Does 115 #[.pointer (some ⟨b1, 0, none⟩), .pointer (some ⟨b2, 0, none⟩), .pointer (some ⟨b3, 0, none⟩)] (fun x y => if f x y then 18446744073709551615 else 0) w := fun W x y hb hx hy => by
  have d1 := (hb.cell (p := ⟨b1, 0, none⟩) (World.block_lt_of_cell? _ _ c1)).trans c1
  have d2 := (hb.cell (p := ⟨b2, 0, none⟩) (World.block_lt_of_cell? _ _ c2)).trans c2
  have d3 := (hb.cell (p := ⟨b3, 0, none⟩) (World.block_lt_of_cell? _ _ c3)).trans c3
  have H := fun W => hid (HB x y W hx hy)
  show Calls Tryz.prog 115 #[.int .u64 x, .int .u64 y, .pointer (some ⟨b1, 0, none⟩), .pointer (some ⟨b2, 0, none⟩), .pointer (some ⟨b3, 0, none⟩)] W _
  clear HB c1 c2 c3 hb
  show Calls _ _ _ _ fun e w' => e = .returned (.int .u64 ((if f x y then 18446744073709551615 else 0 : Nat) : Int)) ∧ _
  have HBT := fun b W => hid (lbit_any b W)
  generalize f x y = r at *
  have hneg : IntKind.u64.wrap (-(1 : Int)) = 18446744073709551615 := by rw [IntKind.wrap_u64]; rfl
  have hneg0 : IntKind.u64.wrap (-(0 : Int)) = 0 := by rw [IntKind.wrap_u64]; rfl
  cases r
  all_goals
    go_enter Tryz.func115, Tryz.ntmps115
    go_wp2_with (first | (go_at_fn g0; refine (H _).out.mono ?_; rintro e w' ⟨⟨c, rfl⟩, hb⟩) | (go_at_call 73; refine (HBT _ _).out.mono ?_; rintro e w2 ⟨rfl, rfl⟩))
    go_ret
    exact ⟨by simp [hneg, hneg0], hb⟩
end Go.Proofs.YtlhakbkdlgejpaaGreatDoor
