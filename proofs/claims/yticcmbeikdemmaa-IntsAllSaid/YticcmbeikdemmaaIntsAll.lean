/-
  What any two come to, and how they stand, by all operations, at all sizes, is the document's. No condition: for every input.
-/
import Derived.Test.YticcmbeikdemmaaGiven
import Derived.Test.YticcmbeikdemmaaRefBinAny
import Derived.Test.YticcmbeikdemmaaRefRel
import Derived.Test.YticcmbeikdemmaaRows
import Derived.WalkKit
import Derived.ProofKit
import Derived.OpenShut
namespace Go.Proofs.Yticcmbeikdemmaa.intsAll
open Go.Proofs.Yticcmbeikdemmaa
open Go.ChangeShapes Go.WideShapes Go.ChangeAt Go.RowKit
set_option linter.unusedVariables false

theorem own : ownKnob Try.prog.godebug = none := by kernel_rfl

set_option maxHeartbeats 3200000 in
set_option maxRecDepth 100000 in
theorem walk_ok (a b : Nat) (ha : a < 18446744073709551616) (hb : b < 18446744073709551616) (w : World) :
    Calls Try.prog 4 #[.int .u64 a, .int .u64 b] w fun e w' => e = .returned (.bool true) ∧ Below w.heap.size w w' := by
  have HA := hid (awake_any w)
  have HO := hid (And.intro ha hb)
  clear ha hb
  go_enter Try.func4, Try.ntmps4
  go_wp2_with (go_at_call 15; refine HA.out.mono ?_; rintro e w' ⟨rfl, rfl⟩)
  go_loopw [6] (fun v wr => Bts v ∧ Below w.heap.size w wr) (fun v _ => 128 - (intOf v).toNat)
  case atStart => exact ⟨bts_first rfl, Below.refl _ _⟩
  case round =>
    obtain ⟨⟨n, hn, rfl⟩, hB⟩ := hrel
    rcases hn with hn | rfl
    · have hn64 : n ≤ 64 := hn.le.2
      have hd64 : decide ((n : Int) ≤ 64) = true := decide_eq_true (by omega)
      have hd64n : decide (n ≤ 64) = true := decide_eq_true hn64
      have HN := hid hn
      have HB := hid hB
      clear hn hB
      go_wp2
      go_loopw [7] (fun v wr2 => Cnt 1 26 v ∧ Below w.heap.size w wr2) (fun v _ => 26 - (intOf v).toNat)
      case atStart => exact ⟨cnt_mk (k := 1) (by omega) (by omega) rfl, HB.out⟩
      case round =>
        rename_i wr2 _
        obtain ⟨⟨k, hk1, hk2, rfl⟩, hB2⟩ := hrel
        by_cases hlt : k ≤ 25
        · have hP := Bin_any n k a b HO.out.1 HO.out.2
          have hR := RBin_any n k a b HO.out.1 HO.out.2
          unfold DivPost at hR
          obtain ⟨V, hV⟩ : ∃ V : Nat, V = (binA n k a b).1 := ⟨_, rfl⟩
          obtain ⟨E, hE⟩ : ∃ E : Nat, E = (binA n k a b).2 := ⟨_, rfl⟩
          rw [← hV, ← hE] at hP hR
          have HP := hid hP
          have HR := hid hR
          have HB2 := hid hB2
          clear hP hR hV hE hB2
          go_wp2_with (first
            | (go_at_call 16; ((with_reducible refine (HP.out _).mono ?_); rintro e w' ⟨rfl, rfl⟩))
            | (go_at_call 17; ((with_reducible refine (HR.out _).mono ?_); rintro e w3 ⟨rfl, hB3⟩; have K3 := hid hB3; clear hB3)))
          go_roundw
          case rel => exact ⟨cnt_mk (k := k + 1) (by omega) (by omega) rfl, HB2.out.trans (K3.out.mono HB2.out.size)⟩
          case measure => simp [intOf]; omega
        · have HB2 := hid hB2
          clear hB2
          go_wp2
          go_loopw [12] (fun v wr3 => Cnt 1 11 v ∧ Below w.heap.size w wr3) (fun v _ => 11 - (intOf v).toNat)
          case atStart => exact ⟨cnt_mk (k := 1) (by omega) (by omega) rfl, HB2.out⟩
          case round =>
            obtain ⟨⟨j, hj1, hj2, rfl⟩, hB3⟩ := hrel
            by_cases hlj : j ≤ 10
            · have hP := Rel_any n j a b HO.out.1 HO.out.2
              have hR := RRel_any n j a b HO.out.1 HO.out.2
              unfold RelPost at hR
              obtain ⟨V, hV⟩ : ∃ V : Bool, V = (relA n j a b).1 := ⟨_, rfl⟩
              obtain ⟨E, hE⟩ : ∃ E : Nat, E = (relA n j a b).2 := ⟨_, rfl⟩
              rw [← hV, ← hE] at hP hR
              have HP := hid hP
              have HR := hid hR
              have HB3 := hid hB3
              clear hP hR hV hE hB3
              go_wp2_with (first
                | (go_at_call 18; ((with_reducible refine (HP.out _).mono ?_); rintro e w' ⟨rfl, rfl⟩))
                | (go_at_call 19; ((with_reducible refine (HR.out _).mono ?_); rintro e w4 ⟨rfl, hB4⟩; have K4 := hid hB4; clear hB4)))
              go_roundw
              case rel => exact ⟨cnt_mk (k := j + 1) (by omega) (by omega) rfl, HB3.out.trans (K4.out.mono HB3.out.size)⟩
              case measure => simp [intOf]; omega
            · have HB3 := hid hB3
              clear hB3
              go_wp2
              go_roundw
              case rel => exact ⟨bts_next HN.out rfl, HB3.out⟩
              case measure =>
                have := HN.out.le
                simp [intOf]
                omega
    · have HB := hid hB
      clear hB
      go_wp2
      go_ret
      exact ⟨rfl, HB.out⟩

theorem walk (a0 : Int) (a1 : Int) (w0 : (Lit.int .u64 a0).wf = true) (w1 : (Lit.int .u64 a1).wf = true) (w : World) :
    Calls Try.prog 4 #[.int .u64 a0, .int .u64 a1] w fun e w' => e = .returned (.bool true) ∧ Below w.heap.size w w' := by
  obtain ⟨a, rfl, ha⟩ := wf_nat w0
  obtain ⟨b, rfl, hb⟩ := wf_nat w1
  exact walk_ok a b ha hb w

/-! ### The row's step -/
set_option maxRecDepth 100000 in
theorem lifted (os : Os) (started : os.Started) (H : Type) (enc : TypeId × Value → H) :
    ReturnsInHanded {} Try.checked os 4 .any (Rows.intsAllSpec.pre6 enc Try.prog Try.f4 Rows.intsAllRow.domain false) (Rows.intsAllSpec.post enc Try.prog Try.f4 false true false false) := by
  refine returnsInHanded_of_change (C := Try.checked) own started (by kernel_rfl) Try.func4
    (ChangeSpec.witness6 (enc := enc) (C := Try.checked) false ⟨#[], #[.int .u64 0, .int .u64 0], []⟩ 8 (by kernel_rfl) (by kernel_rfl) (by kernel_rfl) (by kernel_rfl)) ?_
  intro W base args ds gs before hval0 hW hcnd _
  have hval : ∀ (j : Nat) t v, Try.f4.params[j]? = some t → args[j]? = some v → Value.okWide Try.prog W .any base t v := hval0
  have hW' := hW
  obtain ⟨p, q, hA0, hV, rfl, hfz, hnd⟩ := hW
  have hA : DataW.TrodAll enc Try.prog W 0 (fun _ => true) true Try.f4.params.toList args.toList ds p := hA0
  rw [Try.params4] at hA hval
  obtain ⟨v0, vs0, d0, ds0, p0, q0, hargs, rfl, rfl, h0, r0⟩ := trodAll_cons hA
  obtain ⟨v1, vs1, d1, ds1, p1, q1, rfl, rfl, rfl, h1, r1⟩ := trodAll_cons r0
  obtain ⟨rfl, rfl, rfl⟩ := trodAll_nil r1
  obtain rfl : args = #[v0, v1] := by cases args; simp_all
  obtain ⟨rfl, rfl⟩ := trodVars_none hV
  obtain ⟨a0, rfl, rfl, rfl, w0⟩ := open_int Try.underlying22 (hval 0 22 v0 rfl rfl) h0
  obtain ⟨a1, rfl, rfl, rfl, w1⟩ := open_int Try.underlying22 (hval 1 22 v1 rfl rfl) h1
  clear hA0 hval0
  simp only [List.append_nil] at hW'
  refine (walk a0 a1 w0 w1 W).mono fun e W' ⟨he, hg⟩ => ?_
  subst he
  exact ⟨_, rfl, _, _, _, [], [], [], hW', trodAll_mk1 (shut_bool Try.underlying4 _), (trodAll_cons_mk (shut_int Try.underlying22 w0) (trodAll_cons_mk (shut_int Try.underlying22 w1) trodAll_mk0)), rfl, hg.frame _, fun h => by cases h⟩

theorem over : Rows.intsAllRow.holds Try.pinned (OpenSpec.ofChange Rows.intsAllSpec) :=
  OpenClaim.holds_of_wide 4 Try.f4 rfl rfl rfl rfl rfl rfl rfl ⟨rfl, rfl, rfl, rfl, rfl⟩ rfl rfl rfl rfl rfl (by kernel_rfl) Try.func4 (by kernel_rfl)
    (of_decide_eq_true (by kernel_rfl)) (by unfold Func.isWrapper; first | (rw [if_pos (by decide +kernel)]; kernel_rfl) | (rw [if_neg (by decide +kernel)]; exact ⟨rfl, rfl⟩))
    (fun os started H enc _ => lifted os started H enc)

/-- The statement. -/
theorem proved : Rows.IntsAllSaid :=
  over
#print axioms proved
end Go.Proofs.Yticcmbeikdemmaa.intsAll
