/-
  How any two stand, and what any one comes to, is the document's, or its error; so is a number with its sign. No condition: for every input.
-/
import Derived.Test.YticcmbeikdemmaaGiven
import Derived.Test.YticcmbeikdemmaaRefBinAny
import Derived.Test.YticcmbeikdemmaaRefRel
import Derived.Test.YticcmbeikdemmaaRefUn2
import Derived.Test.YticcmbeikdemmaaRows
import Derived.WalkKit
import Derived.ProofKit
import Derived.OpenShut
namespace Go.Proofs.Yticcmbeikdemmaa.intsOne
open Go.Proofs.Yticcmbeikdemmaa
open Go.ChangeShapes Go.WideShapes Go.ChangeAt Go.RowKit
set_option linter.unusedVariables false

theorem own : ownKnob Try.prog.godebug = none := by kernel_rfl

theorem RSigned_any (bits : Int) (a : Nat) (ha : a < 18446744073709551616) (w : World) :
    Calls Try.prog 23 #[.int .i64 bits, .int .u64 a] w fun e w' => e = .returned (.int .i64 (if Okn bits.toNat then sg bits.toNat (a % 2 ^ bits.toNat) else 0)) ∧ w = w' := by
  by_cases hbits : Okn bits.toNat
  · obtain ⟨n, rfl⟩ : ∃ n : Nat, bits = (n : Int) := ⟨bits.toNat, by have := hbits.le; omega⟩
    rw [if_pos hbits]
    rw [Int.toNat_natCast] at hbits ⊢
    exact RSigned_ok n hbits a ha w
  · rw [if_neg hbits]
    exact RSigned_bad bits (by unfold Bad; unfold Okn at hbits; omega) a w

set_option maxHeartbeats 1600000 in
set_option maxRecDepth 100000 in
theorem walk_ok (bits op : Int) (a b : Nat) (ha : a < 18446744073709551616) (hb : b < 18446744073709551616) (w : World) :
    Calls Try.prog 5 #[.int .i64 bits, .int .i64 op, .int .u64 a, .int .u64 b] w fun e w' => e = .returned (.bool true) ∧ Below w.heap.size w w' := by
  have HA := hid (awake_any w)
  have hP := fun W => Rel_any bits op a b ha hb W
  have hR := fun W => RRel_any bits op a b ha hb W
  have hU := fun W => Un_any bits op a ha W
  have hV := fun W => RUn_any bits op a ha W
  have hG := fun W => Signed_any bits a ha W
  have hH := fun W => RSigned_any bits a ha W
  unfold RelPost at hR
  unfold DivPost at hV
  obtain ⟨R, hRe⟩ : ∃ R : Bool, R = (relA bits op a b).1 := ⟨_, rfl⟩
  obtain ⟨E, hE⟩ : ∃ E : Nat, E = (relA bits op a b).2 := ⟨_, rfl⟩
  obtain ⟨V, hVe⟩ : ∃ V : Nat, V = (unA bits op a).1 := ⟨_, rfl⟩
  obtain ⟨F, hF⟩ : ∃ F : Nat, F = (unA bits op a).2 := ⟨_, rfl⟩
  obtain ⟨Z, hZ⟩ : ∃ Z : Int, Z = if Okn bits.toNat then sg bits.toNat (a % 2 ^ bits.toNat) else 0 := ⟨_, rfl⟩
  rw [← hRe, ← hE] at hP hR
  rw [← hVe, ← hF] at hU hV
  rw [← hZ] at hG hH
  have HP := hid hP
  have HR := hid hR
  have HU := hid hU
  have HV := hid hV
  have HG := hid hG
  have HH := hid hH
  clear hP hR hU hV hG hH hRe hE hVe hF hZ ha hb
  go_enter Try.func5, Try.ntmps5
  go_wp2_with (first
    | (go_at_call 15; refine HA.out.mono ?_; rintro e w' ⟨rfl, rfl⟩)
    | (go_at_call 18; ((with_reducible refine (HP.out _).mono ?_); rintro e w' ⟨rfl, rfl⟩))
    | (go_at_call 19; ((with_reducible refine (HR.out _).mono ?_); rintro e w1 ⟨rfl, hB1⟩; have K1 := hid hB1; clear hB1))
    | (go_at_call 20; ((with_reducible refine (HU.out _).mono ?_); rintro e w' ⟨rfl, rfl⟩))
    | (go_at_call 21; ((with_reducible refine (HV.out _).mono ?_); rintro e w2 ⟨rfl, hB2⟩; have K2 := hid hB2; clear hB2))
    | (go_at_call 22; ((with_reducible refine (HG.out _).mono ?_); rintro e w' ⟨rfl, rfl⟩))
    | (go_at_call 23; ((with_reducible refine (HH.out _).mono ?_); rintro e w' ⟨rfl, rfl⟩)))
  go_ret
  exact ⟨rfl, K1.out.trans (K2.out.mono K1.out.size)⟩

theorem walk (a0 : Int) (a1 : Int) (a2 : Int) (a3 : Int) (w0 : (Lit.int .i64 a0).wf = true) (w1 : (Lit.int .i64 a1).wf = true) (w2 : (Lit.int .u64 a2).wf = true) (w3 : (Lit.int .u64 a3).wf = true) (w : World) :
    Calls Try.prog 5 #[.int .i64 a0, .int .i64 a1, .int .u64 a2, .int .u64 a3] w fun e w' => e = .returned (.bool true) ∧ Below w.heap.size w w' := by
  obtain ⟨a, rfl, ha⟩ := wf_nat w2
  obtain ⟨b, rfl, hb⟩ := wf_nat w3
  exact walk_ok a0 a1 a b ha hb w

/-! ### The row's step -/
set_option maxRecDepth 100000 in
theorem lifted (os : Os) (started : os.Started) (H : Type) (enc : TypeId × Value → H) :
    ReturnsInHanded {} Try.checked os 5 .any (Rows.intsOneSpec.pre6 enc Try.prog Try.f5 Rows.intsOneRow.domain false) (Rows.intsOneSpec.post enc Try.prog Try.f5 false true false false) := by
  refine returnsInHanded_of_change (C := Try.checked) own started (by kernel_rfl) Try.func5
    (ChangeSpec.witness6 (enc := enc) (C := Try.checked) false ⟨#[], #[.int .i64 0, .int .i64 0, .int .u64 0, .int .u64 0], []⟩ 8 (by kernel_rfl) (by kernel_rfl) (by kernel_rfl) (by kernel_rfl)) ?_
  intro W base args ds gs before hval0 hW hcnd _
  have hval : ∀ (j : Nat) t v, Try.f5.params[j]? = some t → args[j]? = some v → Value.okWide Try.prog W .any base t v := hval0
  have hW' := hW
  obtain ⟨p, q, hA0, hV, rfl, hfz, hnd⟩ := hW
  have hA : DataW.TrodAll enc Try.prog W 0 (fun _ => true) true Try.f5.params.toList args.toList ds p := hA0
  rw [Try.params5] at hA hval
  obtain ⟨v0, vs0, d0, ds0, p0, q0, hargs, rfl, rfl, h0, r0⟩ := trodAll_cons hA
  obtain ⟨v1, vs1, d1, ds1, p1, q1, rfl, rfl, rfl, h1, r1⟩ := trodAll_cons r0
  obtain ⟨v2, vs2, d2, ds2, p2, q2, rfl, rfl, rfl, h2, r2⟩ := trodAll_cons r1
  obtain ⟨v3, vs3, d3, ds3, p3, q3, rfl, rfl, rfl, h3, r3⟩ := trodAll_cons r2
  obtain ⟨rfl, rfl, rfl⟩ := trodAll_nil r3
  obtain rfl : args = #[v0, v1, v2, v3] := by cases args; simp_all
  obtain ⟨rfl, rfl⟩ := trodVars_none hV
  obtain ⟨a0, rfl, rfl, rfl, w0⟩ := open_int Try.underlying3 (hval 0 3 v0 rfl rfl) h0
  obtain ⟨a1, rfl, rfl, rfl, w1⟩ := open_int Try.underlying3 (hval 1 3 v1 rfl rfl) h1
  obtain ⟨a2, rfl, rfl, rfl, w2⟩ := open_int Try.underlying22 (hval 2 22 v2 rfl rfl) h2
  obtain ⟨a3, rfl, rfl, rfl, w3⟩ := open_int Try.underlying22 (hval 3 22 v3 rfl rfl) h3
  clear hA0 hval0
  simp only [List.append_nil] at hW'
  refine (walk a0 a1 a2 a3 w0 w1 w2 w3 W).mono fun e W' ⟨he, hg⟩ => ?_
  subst he
  exact ⟨_, rfl, _, _, _, [], [], [], hW', trodAll_mk1 (shut_bool Try.underlying4 _), (trodAll_cons_mk (shut_int Try.underlying3 w0) (trodAll_cons_mk (shut_int Try.underlying3 w1) (trodAll_cons_mk (shut_int Try.underlying22 w2) (trodAll_cons_mk (shut_int Try.underlying22 w3) trodAll_mk0)))), rfl, hg.frame _, fun h => by cases h⟩

theorem over : Rows.intsOneRow.holds Try.pinned (OpenSpec.ofChange Rows.intsOneSpec) :=
  OpenClaim.holds_of_wide 5 Try.f5 rfl rfl rfl rfl rfl rfl rfl ⟨rfl, rfl, rfl, rfl, rfl⟩ rfl rfl rfl rfl rfl (by kernel_rfl) Try.func5 (by kernel_rfl)
    (of_decide_eq_true (by kernel_rfl)) (by unfold Func.isWrapper; first | (rw [if_pos (by decide +kernel)]; kernel_rfl) | (rw [if_neg (by decide +kernel)]; exact ⟨rfl, rfl⟩))
    (fun os started H enc _ => lifted os started H enc)

/-- The statement. -/
theorem proved : Rows.IntsOneSaid :=
  over
#print axioms proved
end Go.Proofs.Yticcmbeikdemmaa.intsOne
