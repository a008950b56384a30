/-
  Any float as an integer, for any two widths, with a sign or without, held or not, comes out the same in the program and in the reference, or with the same trap or error. Condition: the widths are int64, the word is below 2^64.
-/
import Derived.Test.YtnpamiofhalimaaCAwake
import Derived.Test.YtnpamiofhalimaaRTop
import Derived.Test.YtnpamiofhalimaaRows
import Derived.WalkKit
import Derived.ProofKit
import Derived.OpenShut
set_option linter.unusedSimpArgs false
set_option linter.unusedVariables false
namespace Go.Proofs.Ytnpamiofhalimaa.convTruncs
open Go.Proofs.Ytnpamiofhalimaa
open Go.ChangeShapes Go.WideShapes Go.ChangeAt Go.RowKit
open Go.ChangeMaps (open_string shut_string)
set_option linter.unusedVariables false

theorem own : ownKnob Try.prog.godebug = none := by kernel_rfl


theorem walk_v (F b : Int) (s sat : Bool) (a X : Nat) (E : Int)
    (H1 : ∀ W, Hid (Say 10 #[.int .i64 F, .int .i64 b, .bool s, .bool sat, .int .u64 (a : Int)] W (.tuple #[.int .u64 (X : Int), .int .i64 E])))
    (H2 : ∀ W, Hid (Say 11 #[.int .i64 F, .int .i64 b, .bool s, .bool sat, .int .u64 (a : Int)] W (.tuple #[.int .u64 (X : Int), .int .i64 E]))) (w : World) :
    Say 3 #[.int .i64 F, .int .i64 b, .bool s, .bool sat, .int .u64 (a : Int)] w (.bool true) := by
  have HA := fun W => hid (cawake_any W)
  have hB : Below w.heap.size w w := Below.refl _ _
  go_enter Try.func3, Try.ntmps3
  go_wp2_with (first
    | (go_at_call 9; ((with_reducible refine (HA _).out.mono ?_); rintro e w1 ⟨rfl, hb⟩; replace hB := bnext hB hb; clear hb))
    | (go_at_call 10; ((with_reducible refine (H1 _).out.mono ?_); rintro e w1 ⟨rfl, hb⟩; replace hB := bnext hB hb; clear hb))
    | (go_at_call 11; ((with_reducible refine (H2 _).out.mono ?_); rintro e w1 ⟨rfl, hb⟩; replace hB := bnext hB hb; clear hb)))
  go_ret
  exact ⟨by first | rfl | simp, hB⟩

theorem walk (a0 : Int) (a1 : Int) (a2 : Bool) (a3 : Bool) (a4 : Int) (w0 : (Lit.int .i64 a0).wf = true) (w1 : (Lit.int .i64 a1).wf = true) (w4 : (Lit.int .u64 a4).wf = true) (w : World) :
    Calls Try.prog 3 #[.int .i64 a0, .int .i64 a1, .bool a2, .bool a3, .int .u64 a4] w fun e w' => e = .returned (.bool true) ∧ Below w.heap.size w w' := by
  obtain ⟨a, rfl, ha⟩ := wf_nat w4
  by_cases hb : (a0 ≠ 32 ∧ a0 ≠ 64) ∨ (a1 ≠ 32 ∧ a1 ≠ 64)
  · exact walk_v a0 a1 a2 a3 a 0 1 (fun W => hid (Trunc_bad a0 a1 hb a2 a3 a ha W)) (fun W => hid (RTrunc_bad a0 a1 hb a2 a3 a W)) w
  · have h0 : a0 = 32 ∨ a0 = 64 := by clear w0 w1 w4; omega
    have h1 : a1 = 32 ∨ a1 = 64 := by clear w0 w1 w4; omega
    rcases h0 with rfl | rfl <;> rcases h1 with rfl | rfl
    · exact walk_v 32 32 a2 a3 a _ _ (fun W => hid (Trunc_32_32 a2 a3 a ha W)) (fun W => hid (RTrunc_32_32 a2 a3 a ha W)) w
    · exact walk_v 32 64 a2 a3 a _ _ (fun W => hid (Trunc_32_64 a2 a3 a ha W)) (fun W => hid (RTrunc_32_64 a2 a3 a ha W)) w
    · exact walk_v 64 32 a2 a3 a _ _ (fun W => hid (Trunc_64_32 a2 a3 a ha W)) (fun W => hid (RTrunc_64_32 a2 a3 a ha W)) w
    · exact walk_v 64 64 a2 a3 a _ _ (fun W => hid (Trunc_64_64 a2 a3 a ha W)) (fun W => hid (RTrunc_64_64 a2 a3 a ha W)) w

/-! ### The row's step -/
set_option maxRecDepth 100000 in
theorem lifted (os : Os) (started : os.Started) (H : Type) (enc : TypeId × Value → H) :
    ReturnsInHanded {} Try.checked os 3 .any (Rows.convTruncsSpec.pre6 enc Try.prog Try.f3 Rows.convTruncsRow.domain false) (Rows.convTruncsSpec.post enc Try.prog Try.f3 false true false false) := by
  refine returnsInHanded_of_change (C := Try.checked) own started (by kernel_rfl) Try.func3
    (ChangeSpec.witness6 (enc := enc) (C := Try.checked) false ⟨#[], #[.int .i64 0, .int .i64 0, .bool false, .bool false, .int .u64 0], []⟩ 8 (by kernel_rfl) (by kernel_rfl) (by kernel_rfl) (by kernel_rfl)) ?_
  intro W base args ds gs before hval0 hW hcnd _
  have hval : ∀ (j : Nat) t v, Try.f3.params[j]? = some t → args[j]? = some v → Value.okWide Try.prog W .any base t v := hval0
  have hW' := hW
  obtain ⟨p, q, hA0, hV, rfl, hfz, hnd⟩ := hW
  have hA : DataW.TrodAll enc Try.prog W 0 (fun _ => true) true Try.f3.params.toList args.toList ds p := hA0
  rw [Try.params3] at hA hval
  obtain ⟨v0, vs0, d0, ds0, p0, q0, hargs, rfl, rfl, h0, r0⟩ := trodAll_cons hA
  obtain ⟨v1, vs1, d1, ds1, p1, q1, rfl, rfl, rfl, h1, r1⟩ := trodAll_cons r0
  obtain ⟨v2, vs2, d2, ds2, p2, q2, rfl, rfl, rfl, h2, r2⟩ := trodAll_cons r1
  obtain ⟨v3, vs3, d3, ds3, p3, q3, rfl, rfl, rfl, h3, r3⟩ := trodAll_cons r2
  obtain ⟨v4, vs4, d4, ds4, p4, q4, rfl, rfl, rfl, h4, r4⟩ := trodAll_cons r3
  obtain ⟨rfl, rfl, rfl⟩ := trodAll_nil r4
  obtain rfl : args = #[v0, v1, v2, v3, v4] := by cases args; simp_all
  obtain ⟨rfl, rfl⟩ := trodVars_none hV
  obtain ⟨a0, rfl, rfl, rfl, w0⟩ := open_int Try.underlying3 (hval 0 3 v0 rfl rfl) h0
  obtain ⟨a1, rfl, rfl, rfl, w1⟩ := open_int Try.underlying3 (hval 1 3 v1 rfl rfl) h1
  obtain ⟨a2, rfl, rfl, rfl⟩ := open_bool Try.underlying4 (hval 2 4 v2 rfl rfl) h2
  obtain ⟨a3, rfl, rfl, rfl⟩ := open_bool Try.underlying4 (hval 3 4 v3 rfl rfl) h3
  obtain ⟨a4, rfl, rfl, rfl, w4⟩ := open_int Try.underlying22 (hval 4 22 v4 rfl rfl) h4
  clear hA0 hval0
  simp only [List.append_nil] at hW'
  refine (walk a0 a1 a2 a3 a4 w0 w1 w4 W).mono fun e W' ⟨he, hg⟩ => ?_
  subst he
  exact ⟨_, rfl, _, _, _, [], [], [], hW', trodAll_mk1 (shut_bool Try.underlying4 _), (trodAll_cons_mk (shut_int Try.underlying3 w0) (trodAll_cons_mk (shut_int Try.underlying3 w1) (trodAll_cons_mk (shut_bool Try.underlying4 _) (trodAll_cons_mk (shut_bool Try.underlying4 _) (trodAll_cons_mk (shut_int Try.underlying22 w4) trodAll_mk0))))), rfl, hg.frame _, fun h => by cases h⟩

theorem over : Rows.convTruncsRow.holds Try.pinned (OpenSpec.ofChange Rows.convTruncsSpec) :=
  OpenClaim.holds_of_wide 3 Try.f3 rfl rfl rfl rfl rfl rfl rfl ⟨rfl, rfl, rfl, rfl, rfl⟩ rfl rfl rfl rfl rfl (by kernel_rfl) Try.func3 (by kernel_rfl)
    (of_decide_eq_true (by kernel_rfl)) (by unfold Func.isWrapper; first | (rw [if_pos (by decide +kernel)]; kernel_rfl) | (rw [if_neg (by decide +kernel)]; exact ⟨rfl, rfl⟩))
    (fun os started H enc _ => lifted os started H enc)

/-- The statement. -/
theorem proved : Rows.ConvTruncsSaid :=
  over
#print axioms proved
end Go.Proofs.Ytnpamiofhalimaa.convTruncs
