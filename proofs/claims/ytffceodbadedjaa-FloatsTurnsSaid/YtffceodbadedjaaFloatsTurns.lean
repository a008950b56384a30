/-
  Sums and products can be turned; a difference is the sum with the opposite; the opposite of the opposite is the number; the root of a square is the number; the floor is not above a number, the ceiling not below: the law answers true for every input. No condition.
-/
import Derived.Test.YtffceodbadedjaaTurnF
import Derived.Test.YtffceodbadedjaaRows
import Derived.WalkKit
import Derived.ProofKit
import Derived.OpenShut
set_option linter.unusedSimpArgs false
set_option linter.unusedVariables false
namespace Go.Proofs.Ytffceodbadedjaa.floatsTurns
open Go.Proofs.Ytffceodbadedjaa
open Go.ChangeShapes Go.WideShapes Go.ChangeAt Go.RowKit
open Go.ChangeMaps (open_string shut_string)
set_option linter.unusedVariables false

theorem own : ownKnob Try.prog.godebug = none := by kernel_rfl

open Ieee
set_option maxHeartbeats 6400000 in
set_option maxRecDepth 100000 in
theorem turns_a (bits : Int) (hbits : bits = 32) (a b N : Nat) (hN : N < 4294967296) (ha : a < 18446744073709551616) (hb : b < 18446744073709551616) (w : World) :
    Calls Try.prog 8 #[.int .i64 bits, .int .u64 a, .int .u64 b, .int .u32 N] w fun e w' => e = .returned (.bool true) ∧ Below w.heap.size w w' := by
  obtain ⟨k, hk⟩ : ∃ k, k = N % 4096 := ⟨_, rfl⟩
  obtain ⟨s, p, x, f, g, m, u, B, c, kd, hkc, H1, H2, H3, H4, H5, H6, H7, H8, H9, H10, H11, H12, H13, H14, H15, H16⟩ := facts_32 a b k ha hb (by omega)
  unfold SB2 at H1 H2 H3 H4 H7 H9 H16
  unfold SU2 at H5 H6 H10 H11 H12
  unfold SR2 at H13 H14
  unfold SO2 at H8
  unfold SK2 at H15
  replace H1 := fun W => hid (H1 W)
  replace H2 := fun W => hid (H2 W)
  replace H3 := fun W => hid (H3 W)
  replace H4 := fun W => hid (H4 W)
  replace H5 := fun W => hid (H5 W)
  replace H6 := fun W => hid (H6 W)
  replace H7 := fun W => hid (H7 W)
  replace H8 := fun W => hid (H8 W)
  replace H9 := fun W => hid (H9 W)
  replace H10 := fun W => hid (H10 W)
  replace H11 := fun W => hid (H11 W)
  replace H12 := fun W => hid (H12 W)
  replace H13 := fun W => hid (H13 W)
  replace H14 := fun W => hid (H14 W)
  replace H15 := fun W => hid (H15 W)
  replace H16 := fun W => hid (H16 W)
  have HA := fun W => hid (awake_any W)
  have hm1 : IntKind.u32.wrap ((N : Int) % 4096) = (k : Int) := by rw [IntKind.wrap_u32, hk]; omega
  have hm2 : (N : Int) % 4096 = (k : Int) := by omega
  have hm3 : IntKind.u64.wrap (k : Int) = (k : Int) := by rw [IntKind.wrap_u64]; omega
  have hB : Below w.heap.size w w := Below.refl _ _
  subst hbits
  clear hk ha hb hN
  cases c
  all_goals
    go_enter Try.func8, Try.ntmps8
    go_wp2_with (first
    | (go_at_call 16; ((with_reducible refine (HA _).out.mono ?_); rintro e w1 ⟨rfl, hb⟩; replace hB := bnext hB hb; clear hb))
    | (go_at_call 17; ((with_reducible refine (H1 _).out.mono ?_); rintro e w1 ⟨rfl, hb⟩; replace hB := bnext hB hb; clear hb))
    | (go_at_call 17; ((with_reducible refine (H2 _).out.mono ?_); rintro e w1 ⟨rfl, hb⟩; replace hB := bnext hB hb; clear hb))
    | (go_at_call 17; ((with_reducible refine (H3 _).out.mono ?_); rintro e w1 ⟨rfl, hb⟩; replace hB := bnext hB hb; clear hb))
    | (go_at_call 17; ((with_reducible refine (H4 _).out.mono ?_); rintro e w1 ⟨rfl, hb⟩; replace hB := bnext hB hb; clear hb))
    | (go_at_call 23; ((with_reducible refine (H5 _).out.mono ?_); rintro e w1 ⟨rfl, hb⟩; replace hB := bnext hB hb; clear hb))
    | (go_at_call 23; ((with_reducible refine (H6 _).out.mono ?_); rintro e w1 ⟨rfl, hb⟩; replace hB := bnext hB hb; clear hb))
    | (go_at_call 17; ((with_reducible refine (H7 _).out.mono ?_); rintro e w1 ⟨rfl, hb⟩; replace hB := bnext hB hb; clear hb))
    | (go_at_call 27; ((with_reducible refine (H8 _).out.mono ?_); rintro e w1 ⟨rfl, hb⟩; replace hB := bnext hB hb; clear hb))
    | (go_at_call 17; ((with_reducible refine (H9 _).out.mono ?_); rintro e w1 ⟨rfl, hb⟩; replace hB := bnext hB hb; clear hb))
    | (go_at_call 23; ((with_reducible refine (H10 _).out.mono ?_); rintro e w1 ⟨rfl, hb⟩; replace hB := bnext hB hb; clear hb))
    | (go_at_call 23; ((with_reducible refine (H11 _).out.mono ?_); rintro e w1 ⟨rfl, hb⟩; replace hB := bnext hB hb; clear hb))
    | (go_at_call 23; ((with_reducible refine (H12 _).out.mono ?_); rintro e w1 ⟨rfl, hb⟩; replace hB := bnext hB hb; clear hb))
    | (go_at_call 25; ((with_reducible refine (H13 _).out.mono ?_); rintro e w1 ⟨rfl, hb⟩; replace hB := bnext hB hb; clear hb))
    | (go_at_call 25; ((with_reducible refine (H14 _).out.mono ?_); rintro e w1 ⟨rfl, hb⟩; replace hB := bnext hB hb; clear hb))
    | (go_at_call 19; ((with_reducible refine (H15 _).out.mono ?_); rintro e w1 ⟨rfl, hb⟩; replace hB := bnext hB hb; clear hb))
    | (go_at_call 17; ((with_reducible refine (H16 _).out.mono ?_); rintro e w1 ⟨rfl, hb⟩; replace hB := bnext hB hb; clear hb)))
    go_ret
    exact ⟨rfl, hB⟩
set_option maxHeartbeats 6400000 in
set_option maxRecDepth 100000 in
theorem turns_b (bits : Int) (hbits : ¬ bits = 32) (a b N : Nat) (hN : N < 4294967296) (ha : a < 18446744073709551616) (hb : b < 18446744073709551616) (w : World) :
    Calls Try.prog 8 #[.int .i64 bits, .int .u64 a, .int .u64 b, .int .u32 N] w fun e w' => e = .returned (.bool true) ∧ Below w.heap.size w w' := by
  obtain ⟨k, hk⟩ : ∃ k, k = N % 4096 := ⟨_, rfl⟩
  obtain ⟨s, p, x, f, g, m, u, B, c, kd, hkc, H1, H2, H3, H4, H5, H6, H7, H8, H9, H10, H11, H12, H13, H14, H15, H16⟩ := facts_64 a b k ha hb (by omega)
  unfold SB2 at H1 H2 H3 H4 H7 H9 H16
  unfold SU2 at H5 H6 H10 H11 H12
  unfold SR2 at H13 H14
  unfold SO2 at H8
  unfold SK2 at H15
  replace H1 := fun W => hid (H1 W)
  replace H2 := fun W => hid (H2 W)
  replace H3 := fun W => hid (H3 W)
  replace H4 := fun W => hid (H4 W)
  replace H5 := fun W => hid (H5 W)
  replace H6 := fun W => hid (H6 W)
  replace H7 := fun W => hid (H7 W)
  replace H8 := fun W => hid (H8 W)
  replace H9 := fun W => hid (H9 W)
  replace H10 := fun W => hid (H10 W)
  replace H11 := fun W => hid (H11 W)
  replace H12 := fun W => hid (H12 W)
  replace H13 := fun W => hid (H13 W)
  replace H14 := fun W => hid (H14 W)
  replace H15 := fun W => hid (H15 W)
  replace H16 := fun W => hid (H16 W)
  have HA := fun W => hid (awake_any W)
  have hm1 : IntKind.u32.wrap ((N : Int) % 4096) = (k : Int) := by rw [IntKind.wrap_u32, hk]; omega
  have hm2 : (N : Int) % 4096 = (k : Int) := by omega
  have hm3 : IntKind.u64.wrap (k : Int) = (k : Int) := by rw [IntKind.wrap_u64]; omega
  have hB : Below w.heap.size w w := Below.refl _ _
  have hbb : (bits != 32) = true := by simpa using hbits
  clear hk ha hb hN hbits
  cases c
  all_goals
    go_enter Try.func8, Try.ntmps8
    go_wp2_with (first
    | (go_at_call 16; ((with_reducible refine (HA _).out.mono ?_); rintro e w1 ⟨rfl, hb⟩; replace hB := bnext hB hb; clear hb))
    | (go_at_call 17; ((with_reducible refine (H1 _).out.mono ?_); rintro e w1 ⟨rfl, hb⟩; replace hB := bnext hB hb; clear hb))
    | (go_at_call 17; ((with_reducible refine (H2 _).out.mono ?_); rintro e w1 ⟨rfl, hb⟩; replace hB := bnext hB hb; clear hb))
    | (go_at_call 17; ((with_reducible refine (H3 _).out.mono ?_); rintro e w1 ⟨rfl, hb⟩; replace hB := bnext hB hb; clear hb))
    | (go_at_call 17; ((with_reducible refine (H4 _).out.mono ?_); rintro e w1 ⟨rfl, hb⟩; replace hB := bnext hB hb; clear hb))
    | (go_at_call 23; ((with_reducible refine (H5 _).out.mono ?_); rintro e w1 ⟨rfl, hb⟩; replace hB := bnext hB hb; clear hb))
    | (go_at_call 23; ((with_reducible refine (H6 _).out.mono ?_); rintro e w1 ⟨rfl, hb⟩; replace hB := bnext hB hb; clear hb))
    | (go_at_call 17; ((with_reducible refine (H7 _).out.mono ?_); rintro e w1 ⟨rfl, hb⟩; replace hB := bnext hB hb; clear hb))
    | (go_at_call 27; ((with_reducible refine (H8 _).out.mono ?_); rintro e w1 ⟨rfl, hb⟩; replace hB := bnext hB hb; clear hb))
    | (go_at_call 17; ((with_reducible refine (H9 _).out.mono ?_); rintro e w1 ⟨rfl, hb⟩; replace hB := bnext hB hb; clear hb))
    | (go_at_call 23; ((with_reducible refine (H10 _).out.mono ?_); rintro e w1 ⟨rfl, hb⟩; replace hB := bnext hB hb; clear hb))
    | (go_at_call 23; ((with_reducible refine (H11 _).out.mono ?_); rintro e w1 ⟨rfl, hb⟩; replace hB := bnext hB hb; clear hb))
    | (go_at_call 23; ((with_reducible refine (H12 _).out.mono ?_); rintro e w1 ⟨rfl, hb⟩; replace hB := bnext hB hb; clear hb))
    | (go_at_call 25; ((with_reducible refine (H13 _).out.mono ?_); rintro e w1 ⟨rfl, hb⟩; replace hB := bnext hB hb; clear hb))
    | (go_at_call 25; ((with_reducible refine (H14 _).out.mono ?_); rintro e w1 ⟨rfl, hb⟩; replace hB := bnext hB hb; clear hb))
    | (go_at_call 19; ((with_reducible refine (H15 _).out.mono ?_); rintro e w1 ⟨rfl, hb⟩; replace hB := bnext hB hb; clear hb))
    | (go_at_call 17; ((with_reducible refine (H16 _).out.mono ?_); rintro e w1 ⟨rfl, hb⟩; replace hB := bnext hB hb; clear hb)))
    go_ret
    exact ⟨rfl, hB⟩
theorem wf_nat32 {a : Int} (h : (Lit.int .u32 a).wf = true) : ∃ n : Nat, a = (n : Int) ∧ n < 4294967296 := by
  have hb : 0 ≤ a ∧ a < 4294967296 := by
    simp [Lit.wf, IntKind.min, IntKind.max, IntKind.signed, IntKind.bits] at h; omega
  exact ⟨a.toNat, by omega, by omega⟩
theorem walk (a0 : Int) (a1 : Int) (a2 : Int) (a3 : Int) (w0 : (Lit.int .i64 a0).wf = true) (w1 : (Lit.int .u64 a1).wf = true) (w2 : (Lit.int .u64 a2).wf = true) (w3 : (Lit.int .u32 a3).wf = true) (w : World) :
    Calls Try.prog 8 #[.int .i64 a0, .int .u64 a1, .int .u64 a2, .int .u32 a3] w fun e w' => e = .returned (.bool true) ∧ Below w.heap.size w w' := by
  obtain ⟨a, rfl, ha⟩ := wf_nat w1
  obtain ⟨b, rfl, hb⟩ := wf_nat w2
  obtain ⟨N, rfl, hN⟩ := wf_nat32 w3
  by_cases h : a0 = 32
  · exact turns_a a0 h a b N hN ha hb w
  · exact turns_b a0 h a b N hN ha hb w

/-! ### The row's step -/
set_option maxRecDepth 100000 in
theorem lifted (os : Os) (started : os.Started) (H : Type) (enc : TypeId × Value → H) :
    ReturnsInHanded {} Try.checked os 8 .any (Rows.floatsTurnsSpec.pre6 enc Try.prog Try.f8 Rows.floatsTurnsRow.domain false) (Rows.floatsTurnsSpec.post enc Try.prog Try.f8 false true false false) := by
  refine returnsInHanded_of_change (C := Try.checked) own started (by kernel_rfl) Try.func8
    (ChangeSpec.witness6 (enc := enc) (C := Try.checked) false ⟨#[], #[.int .i64 0, .int .u64 0, .int .u64 0, .int .u32 0], []⟩ 8 (by kernel_rfl) (by kernel_rfl) (by kernel_rfl) (by kernel_rfl)) ?_
  intro W base args ds gs before hval0 hW hcnd _
  have hval : ∀ (j : Nat) t v, Try.f8.params[j]? = some t → args[j]? = some v → Value.okWide Try.prog W .any base t v := hval0
  have hW' := hW
  obtain ⟨p, q, hA0, hV, rfl, hfz, hnd⟩ := hW
  have hA : DataW.TrodAll enc Try.prog W 0 (fun _ => true) true Try.f8.params.toList args.toList ds p := hA0
  rw [Try.params8] at hA hval
  obtain ⟨v0, vs0, d0, ds0, p0, q0, hargs, rfl, rfl, h0, r0⟩ := trodAll_cons hA
  obtain ⟨v1, vs1, d1, ds1, p1, q1, rfl, rfl, rfl, h1, r1⟩ := trodAll_cons r0
  obtain ⟨v2, vs2, d2, ds2, p2, q2, rfl, rfl, rfl, h2, r2⟩ := trodAll_cons r1
  obtain ⟨v3, vs3, d3, ds3, p3, q3, rfl, rfl, rfl, h3, r3⟩ := trodAll_cons r2
  obtain ⟨rfl, rfl, rfl⟩ := trodAll_nil r3
  obtain rfl : args = #[v0, v1, v2, v3] := by cases args; simp_all
  obtain ⟨rfl, rfl⟩ := trodVars_none hV
  obtain ⟨a0, rfl, rfl, rfl, w0⟩ := open_int Try.underlying3 (hval 0 3 v0 rfl rfl) h0
  obtain ⟨a1, rfl, rfl, rfl, w1⟩ := open_int Try.underlying22 (hval 1 22 v1 rfl rfl) h1
  obtain ⟨a2, rfl, rfl, rfl, w2⟩ := open_int Try.underlying22 (hval 2 22 v2 rfl rfl) h2
  obtain ⟨a3, rfl, rfl, rfl, w3⟩ := open_int Try.underlying39 (hval 3 39 v3 rfl rfl) h3
  clear hA0 hval0
  simp only [List.append_nil] at hW'
  refine (walk a0 a1 a2 a3 w0 w1 w2 w3 W).mono fun e W' ⟨he, hg⟩ => ?_
  subst he
  exact ⟨_, rfl, _, _, _, [], [], [], hW', trodAll_mk1 (shut_bool Try.underlying4 _), (trodAll_cons_mk (shut_int Try.underlying3 w0) (trodAll_cons_mk (shut_int Try.underlying22 w1) (trodAll_cons_mk (shut_int Try.underlying22 w2) (trodAll_cons_mk (shut_int Try.underlying39 w3) trodAll_mk0)))), rfl, hg.frame _, fun h => by cases h⟩

theorem over : Rows.floatsTurnsRow.holds Try.pinned (OpenSpec.ofChange Rows.floatsTurnsSpec) :=
  OpenClaim.holds_of_wide 8 Try.f8 rfl rfl rfl rfl rfl rfl rfl ⟨rfl, rfl, rfl, rfl, rfl⟩ rfl rfl rfl rfl rfl (by kernel_rfl) Try.func8 (by kernel_rfl)
    (of_decide_eq_true (by kernel_rfl)) (by unfold Func.isWrapper; first | (rw [if_pos (by decide +kernel)]; kernel_rfl) | (rw [if_neg (by decide +kernel)]; exact ⟨rfl, rfl⟩))
    (fun os started H enc _ => lifted os started H enc)

/-- The statement. -/
theorem proved : Rows.FloatsTurnsSaid :=
  over
#print axioms proved
end Go.Proofs.Ytffceodbadedjaa.floatsTurns
