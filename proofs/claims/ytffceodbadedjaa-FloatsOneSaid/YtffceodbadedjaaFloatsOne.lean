/-
  What any word comes to by itself, by any operation and at any width, and how any two words stand, come out the same in the program and in the reference, with the same errors. Condition: width and operation are int64, the words are below 2^64.
-/
import Derived.Test.YtffceodbadedjaaAwakeR
import Derived.Test.YtffceodbadedjaaFUn
import Derived.Test.YtffceodbadedjaaFUn3
import Derived.Test.YtffceodbadedjaaRRoot
import Derived.Test.YtffceodbadedjaaRRel
import Derived.Test.YtffceodbadedjaaRows
import Derived.WalkKit
import Derived.ProofKit
import Derived.OpenShut
set_option linter.unusedSimpArgs false
set_option linter.unusedVariables false
namespace Go.Proofs.Ytffceodbadedjaa.floatsOne
open Go.Proofs.Ytffceodbadedjaa
open Go.ChangeShapes Go.WideShapes Go.ChangeAt Go.RowKit
open Go.ChangeMaps (open_string shut_string)
set_option linter.unusedVariables false

theorem own : ownKnob Try.prog.godebug = none := by kernel_rfl


theorem RUn_no (b : Int) (h1 : b ≠ 32) (h2 : b ≠ 64) (op : Int) (x : Nat) (w : World) : Calls Try.prog 24 #[.int .i64 b, .int .i64 op, .int .u64 x] w fun e w' => e = .returned (.tuple #[.int .u64 0, .int .i64 1]) ∧ Below w.heap.size w w' := by
  have e1 : (b != 32) = true := by simpa using h1
  have e2 : (b != 64) = true := by simpa using h2
  clear h1 h2
  go_enter Try.func24, Try.ntmps24
  go_wp2
  go_ret2
  exact ⟨rfl, Below.refl _ _⟩

theorem RUn_32_bad (op : Int) (hop : op < 1 ∨ 7 < op) (x : Nat) (w : World) : Calls Try.prog 24 #[.int .i64 32, .int .i64 op, .int .u64 x] w fun e w' => e = .returned (.tuple #[.int .u64 0, .int .i64 1]) ∧ Below w.heap.size w w' := by
  rcases hop with h | h
  · have o1 : decide (op < 1) = true := by simp; omega
    clear h
    go_enter Try.func24, Try.ntmps24
    go_wp2
    go_ret2
    exact ⟨rfl, Below.refl _ _⟩
  · have o1 : decide (op < 1) = false := by simp; omega
    have o2 : decide (7 < op) = true := by simp; omega
    clear h
    go_enter Try.func24, Try.ntmps24
    go_wp2
    go_ret2
    exact ⟨rfl, Below.refl _ _⟩

theorem RUn_64_bad (op : Int) (hop : op < 1 ∨ 7 < op) (x : Nat) (w : World) : Calls Try.prog 24 #[.int .i64 64, .int .i64 op, .int .u64 x] w fun e w' => e = .returned (.tuple #[.int .u64 0, .int .i64 1]) ∧ Below w.heap.size w w' := by
  rcases hop with h | h
  · have o1 : decide (op < 1) = true := by simp; omega
    clear h
    go_enter Try.func24, Try.ntmps24
    go_wp2
    go_ret2
    exact ⟨rfl, Below.refl _ _⟩
  · have o1 : decide (op < 1) = false := by simp; omega
    have o2 : decide (7 < op) = true := by simp; omega
    clear h
    go_enter Try.func24, Try.ntmps24
    go_wp2
    go_ret2
    exact ⟨rfl, Below.refl _ _⟩

theorem un_ex (n op : Int) (a : Nat) (ha : a < 18446744073709551616) : ∃ (X : Nat) (E : Int),
    (∀ W, Hid (Calls Try.prog 23 #[.int .i64 n, .int .i64 op, .int .u64 (a : Int)] W fun e w' => e = .returned (.tuple #[.int .u64 (X : Int), .int .i64 E]) ∧ Below W.heap.size W w')) ∧
    (∀ W, Hid (Calls Try.prog 24 #[.int .i64 n, .int .i64 op, .int .u64 (a : Int)] W fun e w' => e = .returned (.tuple #[.int .u64 (X : Int), .int .i64 E]) ∧ Below W.heap.size W w')) := by
  by_cases h32 : n = 32
  · subst h32
    by_cases hop : op < 1 ∨ 7 < op
    · exact ⟨0, 1, fun W => hid (Un_32_bad op hop a ha W), fun W => hid (RUn_32_bad op hop a W)⟩
    · have h7 : op = 1 ∨ op = 2 ∨ op = 3 ∨ op = 4 ∨ op = 5 ∨ op = 6 ∨ op = 7 := by omega
      rcases h7 with rfl | rfl | rfl | rfl | rfl | rfl | rfl
      · exact ⟨_, 0, fun W => hid (Un_32_1 a ha W), fun W => hid (RUn_32_1 a ha W)⟩
      · exact ⟨_, 0, fun W => hid (Un_32_2 a ha W), fun W => hid (RUn_32_2 a ha W)⟩
      · exact ⟨_, 0, fun W => hid (Un_32_3 a ha W), fun W => hid (RUn_32_3 a ha W)⟩
      · exact ⟨_, 0, fun W => hid (Un_32_4 a ha W), fun W => hid (RUn_32_4 a ha W)⟩
      · exact ⟨_, 0, fun W => hid (Un_32_5 a ha W), fun W => hid (RUn_32_5 a ha W)⟩
      · exact ⟨_, 0, fun W => hid (Un_32_6 a ha W), fun W => hid (RUn_32_6 a ha W)⟩
      · exact ⟨_, 0, fun W => hid (Un_32_7 a ha W), fun W => hid (RUn_32_7 a ha W)⟩
  · by_cases h64 : n = 64
    · subst h64
      by_cases hop : op < 1 ∨ 7 < op
      · exact ⟨0, 1, fun W => hid (Un_64_bad op hop a ha W), fun W => hid (RUn_64_bad op hop a W)⟩
      · have h7 : op = 1 ∨ op = 2 ∨ op = 3 ∨ op = 4 ∨ op = 5 ∨ op = 6 ∨ op = 7 := by omega
        rcases h7 with rfl | rfl | rfl | rfl | rfl | rfl | rfl
        · exact ⟨_, 0, fun W => hid (Un_64_1 a ha W), fun W => hid (RUn_64_1 a ha W)⟩
        · exact ⟨_, 0, fun W => hid (Un_64_2 a ha W), fun W => hid (RUn_64_2 a ha W)⟩
        · exact ⟨_, 0, fun W => hid (Un_64_3 a ha W), fun W => hid (RUn_64_3 a ha W)⟩
        · exact ⟨_, 0, fun W => hid (Un_64_4 a ha W), fun W => hid (RUn_64_4 a ha W)⟩
        · exact ⟨_, 0, fun W => hid (Un_64_5 a ha W), fun W => hid (RUn_64_5 a ha W)⟩
        · exact ⟨_, 0, fun W => hid (Un_64_6 a ha W), fun W => hid (RUn_64_6 a ha W)⟩
        · exact ⟨_, 0, fun W => hid (Un_64_7 a ha W), fun W => hid (RUn_64_7 a ha W)⟩
    · exact ⟨0, 1, fun W => hid (Un_no n h32 h64 op a W), fun W => hid (RUn_no n h32 h64 op a W)⟩

theorem below_eq {w w' : World} (h : w = w') : Below w.heap.size w w' := by rw [← h]; exact Below.refl _ _

theorem rel_ex (n op : Int) (a b : Nat) (ha : a < 18446744073709551616) (hb : b < 18446744073709551616) : ∃ (Z : Bool) (G : Int),
    (∀ W, Hid (Calls Try.prog 25 #[.int .i64 n, .int .i64 op, .int .u64 (a : Int), .int .u64 (b : Int)] W fun e w' => e = .returned (.tuple #[.bool Z, .int .i64 G]) ∧ Below W.heap.size W w')) ∧
    (∀ W, Hid (Calls Try.prog 26 #[.int .i64 n, .int .i64 op, .int .u64 (a : Int), .int .u64 (b : Int)] W fun e w' => e = .returned (.tuple #[.bool Z, .int .i64 G]) ∧ Below W.heap.size W w')) := by
  by_cases h32 : n = 32
  · subst h32
    by_cases hop : op < 1 ∨ 6 < op
    · exact ⟨false, 1, fun W => hid (Rel_32_bad op hop a b W), fun W => hid ((RRel_32_bad op hop a b W).mono fun e w' h => ⟨h.1, below_eq h.2⟩)⟩
    · obtain ⟨k, rfl⟩ : ∃ k : Nat, op = (k : Int) := ⟨op.toNat, by omega⟩
      have hk : k = 1 ∨ k = 2 ∨ k = 3 ∨ k = 4 ∨ k = 5 ∨ k = 6 := by omega
      exact ⟨_, 0, fun W => hid (Rel_32 k hk a b ha hb W), fun W => hid (RRel_32 k hk a b ha hb W)⟩
  · by_cases h64 : n = 64
    · subst h64
      by_cases hop : op < 1 ∨ 6 < op
      · exact ⟨false, 1, fun W => hid (Rel_64_bad op hop a b W), fun W => hid ((RRel_64_bad op hop a b W).mono fun e w' h => ⟨h.1, below_eq h.2⟩)⟩
      · obtain ⟨k, rfl⟩ : ∃ k : Nat, op = (k : Int) := ⟨op.toNat, by omega⟩
        have hk : k = 1 ∨ k = 2 ∨ k = 3 ∨ k = 4 ∨ k = 5 ∨ k = 6 := by omega
        exact ⟨_, 0, fun W => hid (Rel_64 k hk a b ha hb W), fun W => hid (RRel_64 k hk a b ha hb W)⟩
    · exact ⟨false, 1, fun W => hid (Rel_no n h32 h64 op a b W), fun W => hid ((RRel_no n h32 h64 op a b W).mono fun e w' h => ⟨h.1, below_eq h.2⟩)⟩

set_option maxHeartbeats 1600000 in
theorem walk_v (n op : Int) (a b : Nat) (ha : a < 18446744073709551616) (hb : b < 18446744073709551616) (w : World) :
    Calls Try.prog 5 #[.int .i64 n, .int .i64 op, .int .u64 (a : Int), .int .u64 (b : Int)] w fun e w' => e = .returned (.bool true) ∧ Below w.heap.size w w' := by
  have HA := fun W => hid (awake_any W)
  have hB : Below w.heap.size w w := Below.refl _ _
  obtain ⟨X, E, H23, H24⟩ := un_ex n op a ha
  obtain ⟨Z, G, H25, H26⟩ := rel_ex n op a b ha hb
  clear ha hb
  go_enter Try.func5, Try.ntmps5
  go_wp2_with (first
    | (go_at_call 16; ((with_reducible refine (HA _).out.mono ?_); rintro e w1 ⟨rfl, hb⟩; replace hB := bnext hB hb; clear hb))
    | (go_at_call 23; ((with_reducible refine (H23 _).out.mono ?_); rintro e w1 ⟨rfl, hb⟩; replace hB := bnext hB hb; clear hb))
    | (go_at_call 24; ((with_reducible refine (H24 _).out.mono ?_); rintro e w1 ⟨rfl, hb⟩; replace hB := bnext hB hb; clear hb))
    | (go_at_call 25; ((with_reducible refine (H25 _).out.mono ?_); rintro e w1 ⟨rfl, hb⟩; replace hB := bnext hB hb; clear hb))
    | (go_at_call 26; ((with_reducible refine (H26 _).out.mono ?_); rintro e w1 ⟨rfl, hb⟩; replace hB := bnext hB hb; clear hb)))
  go_ret
  exact ⟨by first | rfl | simp, hB⟩

theorem walk (a0 : Int) (a1 : Int) (a2 : Int) (a3 : Int) (w0 : (Lit.int .i64 a0).wf = true) (w1 : (Lit.int .i64 a1).wf = true) (w2 : (Lit.int .u64 a2).wf = true) (w3 : (Lit.int .u64 a3).wf = true) (w : World) :
    Calls Try.prog 5 #[.int .i64 a0, .int .i64 a1, .int .u64 a2, .int .u64 a3] w fun e w' => e = .returned (.bool true) ∧ Below w.heap.size w w' := by
  obtain ⟨a, rfl, ha⟩ := wf_nat w2
  obtain ⟨b, rfl, hb⟩ := wf_nat w3
  exact walk_v a0 a1 a b ha hb w

/-! ### The row's step -/
set_option maxRecDepth 100000 in
theorem lifted (os : Os) (started : os.Started) (H : Type) (enc : TypeId × Value → H) :
    ReturnsInHanded {} Try.checked os 5 .any (Rows.floatsOneSpec.pre6 enc Try.prog Try.f5 Rows.floatsOneRow.domain false) (Rows.floatsOneSpec.post enc Try.prog Try.f5 false true false false) := by
  refine returnsInHanded_of_change (C := Try.checked) own started (by kernel_rfl) Try.func5
    (ChangeSpec.witness6 (enc := enc) (C := Try.checked) false ⟨#[], #[.int .i64 0, .int .i64 0, .int .u64 0, .int .u64 0], []⟩ 8 (by kernel_rfl) (by kernel_rfl) (by kernel_rfl) (by kernel_rfl)) ?_
  intro W base args ds gs before hval0 hW hcnd _
  have hval : ∀ (j : Nat) t v, Try.f5.params[j]? = some t → args[j]? = some v → Value.okWide Try.prog W .any base t v := hval0
  have hW' := hW
  obtain ⟨p, q, hA0, hV, rfl, hfz, hnd⟩ := hW
  have hA : DataW.TrodAll enc Try.prog W 0 (fun _ => true) true Try.f5.params.toList args.toList ds p := hA0
  rw [Try.params5] at hA hval
  obtain ⟨v0, vs0, d0, ds0, p0, q0, hargs, rfl, rfl, h0, r0⟩ := trodAll_cons hA
  obtain ⟨v1, vs1, d1, ds1, p1, q1, rfl, rfl, rfl, h1, r1⟩ := trodAll_cons r0
  obtain ⟨v2, vs2, d2, ds2, p2, q2, rfl, rfl, rfl, h2, r2⟩ := trodAll_cons r1
  obtain ⟨v3, vs3, d3, ds3, p3, q3, rfl, rfl, rfl, h3, r3⟩ := trodAll_cons r2
  obtain ⟨rfl, rfl, rfl⟩ := trodAll_nil r3
  obtain rfl : args = #[v0, v1, v2, v3] := by cases args; simp_all
  obtain ⟨rfl, rfl⟩ := trodVars_none hV
  obtain ⟨a0, rfl, rfl, rfl, w0⟩ := open_int Try.underlying3 (hval 0 3 v0 rfl rfl) h0
  obtain ⟨a1, rfl, rfl, rfl, w1⟩ := open_int Try.underlying3 (hval 1 3 v1 rfl rfl) h1
  obtain ⟨a2, rfl, rfl, rfl, w2⟩ := open_int Try.underlying22 (hval 2 22 v2 rfl rfl) h2
  obtain ⟨a3, rfl, rfl, rfl, w3⟩ := open_int Try.underlying22 (hval 3 22 v3 rfl rfl) h3
  clear hA0 hval0
  simp only [List.append_nil] at hW'
  refine (walk a0 a1 a2 a3 w0 w1 w2 w3 W).mono fun e W' ⟨he, hg⟩ => ?_
  subst he
  exact ⟨_, rfl, _, _, _, [], [], [], hW', trodAll_mk1 (shut_bool Try.underlying4 _), (trodAll_cons_mk (shut_int Try.underlying3 w0) (trodAll_cons_mk (shut_int Try.underlying3 w1) (trodAll_cons_mk (shut_int Try.underlying22 w2) (trodAll_cons_mk (shut_int Try.underlying22 w3) trodAll_mk0)))), rfl, hg.frame _, fun h => by cases h⟩

theorem over : Rows.floatsOneRow.holds Try.pinned (OpenSpec.ofChange Rows.floatsOneSpec) :=
  OpenClaim.holds_of_wide 5 Try.f5 rfl rfl rfl rfl rfl rfl rfl ⟨rfl, rfl, rfl, rfl, rfl⟩ rfl rfl rfl rfl rfl (by kernel_rfl) Try.func5 (by kernel_rfl)
    (of_decide_eq_true (by kernel_rfl)) (by unfold Func.isWrapper; first | (rw [if_pos (by decide +kernel)]; kernel_rfl) | (rw [if_neg (by decide +kernel)]; exact ⟨rfl, rfl⟩))
    (fun os started H enc _ => lifted os started H enc)

/-- The statement. -/
theorem proved : Rows.FloatsOneSaid :=
  over
#print axioms proved
end Go.Proofs.Ytffceodbadedjaa.floatsOne
