/-
  Any number times any power of 2, and a little more, is rounded as the document says, or refused. No condition: for every input.
-/
import Derived.Test.YtffceodbadedjaaAwake
import Derived.Test.YtffceodbadedjaaRRound
import Derived.Test.YtffceodbadedjaaRows
import Derived.WalkKit
import Derived.ProofKit
import Derived.OpenShut
namespace Go.Proofs.Ytffceodbadedjaa.floatsRounds
open Go.Proofs.Ytffceodbadedjaa
open Go.ChangeShapes Go.WideShapes Go.ChangeAt Go.RowKit
set_option linter.unusedVariables false

theorem own : ownKnob Try.prog.godebug = none := by kernel_rfl

set_option maxHeartbeats 1600000 in
theorem walk_ok (bits : Int) (ng : Bool) (m : Nat) (hm : m < 18446744073709551616) (ex : Int) (he0 : -9223372036854775808 ≤ ex) (he1 : ex ≤ 9223372036854775807) (more : Bool) (w : World) :
    Calls Try.prog 6 #[.int .i64 bits, .bool ng, .int .u64 m, .int .i64 ex, .bool more] w fun e w' => e = .returned (.bool true) ∧ Below w.heap.size w w' := by
  have key : ∃ V E : Int, (∀ W, Hid (Calls Try.prog 27 #[.int .i64 bits, .bool ng, .int .u64 m, .int .i64 ex, .bool more] W fun e w' => e = .returned (.tuple #[.int .u64 V, .int .i64 E]) ∧ Below W.heap.size W w')) ∧
      (∀ W, Hid (Calls Try.prog 28 #[.int .i64 bits, .bool ng, .int .u64 m, .int .i64 ex, .bool more] W fun e w' => e = .returned (.tuple #[.int .u64 V, .int .i64 E]) ∧ W = w')) := by
    by_cases h32 : bits = 32
    · subst h32
      by_cases hbad : more = true ∧ m < 288230376151711744
      · refine ⟨0, 1, fun W => ?_, fun W => ?_⟩
        · have := Round_32 ng m hm ex he0 he1 more W; rw [if_pos hbad] at this; exact this
        · have := RRound_32 ng m hm ex he0 he1 more W; rw [if_pos hbad] at this; exact this
      · refine ⟨((Ieee.single.word ng (rungR Ieee.single m ex more) : Nat) : Int), 0, fun W => ?_, fun W => ?_⟩
        rotate_left
        · have := RRound_32 ng m hm ex he0 he1 more W; rw [if_neg hbad] at this; exact this
        · have := Round_32 ng m hm ex he0 he1 more W; rw [if_neg hbad] at this; exact this
    · by_cases h64 : bits = 64
      · subst h64
        by_cases hbad : more = true ∧ m < 288230376151711744
        · refine ⟨0, 1, fun W => ?_, fun W => ?_⟩
          · have := Round_64 ng m hm ex he0 he1 more W; rw [if_pos hbad] at this; exact this
          · have := RRound_64 ng m hm ex he0 he1 more W; rw [if_pos hbad] at this; exact this
        · refine ⟨((Ieee.double.word ng (rungR Ieee.double m ex more) : Nat) : Int), 0, fun W => ?_, fun W => ?_⟩
          rotate_left
          · have := RRound_64 ng m hm ex he0 he1 more W; rw [if_neg hbad] at this; exact this
          · have := Round_64 ng m hm ex he0 he1 more W; rw [if_neg hbad] at this; exact this
      · exact ⟨0, 1, fun W => Round_no bits h32 h64 ng m ex more W, fun W => RRound_no bits h32 h64 ng m ex more W⟩
  obtain ⟨V, E, HP, HR⟩ := key
  have HA := fun W => hid (awake_any W)
  have hB : Below w.heap.size w w := Below.refl _ _
  clear hm he0 he1
  go_enter Try.func6, Try.ntmps6
  go_wp2_with (first
    | (go_at_call 16; ((with_reducible refine (HA _).out.mono ?_); rintro e w1 ⟨rfl, hb⟩; replace hB := bnext hB hb; clear hb))
    | (go_at_call 27; ((with_reducible refine (HP _).out.mono ?_); rintro e w1 ⟨rfl, hb⟩; replace hB := bnext hB hb; clear hb))
    | (go_at_call 28; ((with_reducible refine (HR _).out.mono ?_); rintro e w1 ⟨rfl, rfl⟩)))
  go_ret
  exact ⟨rfl, hB⟩

theorem wf_i64 {a : Int} (h : (Lit.int .i64 a).wf = true) : -9223372036854775808 ≤ a ∧ a ≤ 9223372036854775807 := by
  simp [Lit.wf, IntKind.min, IntKind.max, IntKind.signed, IntKind.bits] at h; omega

theorem walk (a0 : Int) (a1 : Bool) (a2 : Int) (a3 : Int) (a4 : Bool) (w0 : (Lit.int .i64 a0).wf = true) (w2 : (Lit.int .u64 a2).wf = true) (w3 : (Lit.int .i64 a3).wf = true) (w : World) :
    Calls Try.prog 6 #[.int .i64 a0, .bool a1, .int .u64 a2, .int .i64 a3, .bool a4] w fun e w' => e = .returned (.bool true) ∧ Below w.heap.size w w' := by
  obtain ⟨m, rfl, hm⟩ := wf_nat w2
  obtain ⟨h0, h1⟩ := wf_i64 w3
  exact walk_ok a0 a1 m hm a3 h0 h1 a4 w

/-! ### The row's step -/
set_option maxRecDepth 100000 in
theorem lifted (os : Os) (started : os.Started) (H : Type) (enc : TypeId × Value → H) :
    ReturnsInHanded {} Try.checked os 6 .any (Rows.floatsRoundsSpec.pre6 enc Try.prog Try.f6 Rows.floatsRoundsRow.domain false) (Rows.floatsRoundsSpec.post enc Try.prog Try.f6 false true false false) := by
  refine returnsInHanded_of_change (C := Try.checked) own started (by kernel_rfl) Try.func6
    (ChangeSpec.witness6 (enc := enc) (C := Try.checked) false ⟨#[], #[.int .i64 0, .bool false, .int .u64 0, .int .i64 0, .bool false], []⟩ 8 (by kernel_rfl) (by kernel_rfl) (by kernel_rfl) (by kernel_rfl)) ?_
  intro W base args ds gs before hval0 hW hcnd _
  have hval : ∀ (j : Nat) t v, Try.f6.params[j]? = some t → args[j]? = some v → Value.okWide Try.prog W .any base t v := hval0
  have hW' := hW
  obtain ⟨p, q, hA0, hV, rfl, hfz, hnd⟩ := hW
  have hA : DataW.TrodAll enc Try.prog W 0 (fun _ => true) true Try.f6.params.toList args.toList ds p := hA0
  rw [Try.params6] at hA hval
  obtain ⟨v0, vs0, d0, ds0, p0, q0, hargs, rfl, rfl, h0, r0⟩ := trodAll_cons hA
  obtain ⟨v1, vs1, d1, ds1, p1, q1, rfl, rfl, rfl, h1, r1⟩ := trodAll_cons r0
  obtain ⟨v2, vs2, d2, ds2, p2, q2, rfl, rfl, rfl, h2, r2⟩ := trodAll_cons r1
  obtain ⟨v3, vs3, d3, ds3, p3, q3, rfl, rfl, rfl, h3, r3⟩ := trodAll_cons r2
  obtain ⟨v4, vs4, d4, ds4, p4, q4, rfl, rfl, rfl, h4, r4⟩ := trodAll_cons r3
  obtain ⟨rfl, rfl, rfl⟩ := trodAll_nil r4
  obtain rfl : args = #[v0, v1, v2, v3, v4] := by cases args; simp_all
  obtain ⟨rfl, rfl⟩ := trodVars_none hV
  obtain ⟨a0, rfl, rfl, rfl, w0⟩ := open_int Try.underlying3 (hval 0 3 v0 rfl rfl) h0
  obtain ⟨a1, rfl, rfl, rfl⟩ := open_bool Try.underlying4 (hval 1 4 v1 rfl rfl) h1
  obtain ⟨a2, rfl, rfl, rfl, w2⟩ := open_int Try.underlying22 (hval 2 22 v2 rfl rfl) h2
  obtain ⟨a3, rfl, rfl, rfl, w3⟩ := open_int Try.underlying3 (hval 3 3 v3 rfl rfl) h3
  obtain ⟨a4, rfl, rfl, rfl⟩ := open_bool Try.underlying4 (hval 4 4 v4 rfl rfl) h4
  clear hA0 hval0
  simp only [List.append_nil] at hW'
  refine (walk a0 a1 a2 a3 a4 w0 w2 w3 W).mono fun e W' ⟨he, hg⟩ => ?_
  subst he
  exact ⟨_, rfl, _, _, _, [], [], [], hW', trodAll_mk1 (shut_bool Try.underlying4 _), (trodAll_cons_mk (shut_int Try.underlying3 w0) (trodAll_cons_mk (shut_bool Try.underlying4 _) (trodAll_cons_mk (shut_int Try.underlying22 w2) (trodAll_cons_mk (shut_int Try.underlying3 w3) (trodAll_cons_mk (shut_bool Try.underlying4 _) trodAll_mk0))))), rfl, hg.frame _, fun h => by cases h⟩

theorem over : Rows.floatsRoundsRow.holds Try.pinned (OpenSpec.ofChange Rows.floatsRoundsSpec) :=
  OpenClaim.holds_of_wide 6 Try.f6 rfl rfl rfl rfl rfl rfl rfl ⟨rfl, rfl, rfl, rfl, rfl⟩ rfl rfl rfl rfl rfl (by kernel_rfl) Try.func6 (by kernel_rfl)
    (of_decide_eq_true (by kernel_rfl)) (by unfold Func.isWrapper; first | (rw [if_pos (by decide +kernel)]; kernel_rfl) | (rw [if_neg (by decide +kernel)]; exact ⟨rfl, rfl⟩))
    (fun os started H enc _ => lifted os started H enc)

/-- The statement. -/
theorem proved : Rows.FloatsRoundsSaid :=
  over
#print axioms proved
end Go.Proofs.Ytffceodbadedjaa.floatsRounds
