/-
  What any two words come to, by any operation and at any width, comes out the same in the program and in the reference, bit by bit, with the same error; and so do the kind of the first one and the canonical NaN. Condition: width and operation are int64, the words are below 2^64.
-/
import Derived.Test.YtffceodbadedjaaAwake
import Derived.Test.YtffceodbadedjaaRArith
import Derived.Test.YtffceodbadedjaaRBin
import Derived.Test.YtffceodbadedjaaRows
import Derived.WalkKit
import Derived.ProofKit
import Derived.OpenShut
set_option linter.unusedSimpArgs false
set_option linter.unusedVariables false
namespace Go.Proofs.Ytffceodbadedjaa.floatsBin
open Go.Proofs.Ytffceodbadedjaa
open Go.ChangeShapes Go.WideShapes Go.ChangeAt Go.RowKit
open Go.ChangeMaps (open_string shut_string)
set_option linter.unusedVariables false

theorem own : ownKnob Try.prog.godebug = none := by kernel_rfl


theorem RBin_no (b : Int) (h1 : b ≠ 32) (h2 : b ≠ 64) (op : Int) (x y : Nat) (w : World) : Calls Try.prog 18 #[.int .i64 b, .int .i64 op, .int .u64 x, .int .u64 y] w fun e w' => e = .returned (.tuple #[.int .u64 0, .int .i64 1]) ∧ Below w.heap.size w w' := by
  have e1 : (b != 32) = true := by simpa using h1
  have e2 : (b != 64) = true := by simpa using h2
  clear h1 h2
  go_enter Try.func18, Try.ntmps18
  go_wp2
  go_ret2
  exact ⟨rfl, Below.refl _ _⟩

theorem RBin_32_bad (op : Int) (hop : op < 1 ∨ 9 < op) (x y : Nat) (w : World) : Calls Try.prog 18 #[.int .i64 32, .int .i64 op, .int .u64 x, .int .u64 y] w fun e w' => e = .returned (.tuple #[.int .u64 0, .int .i64 1]) ∧ Below w.heap.size w w' := by
  rcases hop with h | h
  · have o1 : decide (op < 1) = true := by simp; omega
    clear h
    go_enter Try.func18, Try.ntmps18
    go_wp2
    go_ret2
    exact ⟨rfl, Below.refl _ _⟩
  · have o1 : decide (op < 1) = false := by simp; omega
    have o2 : decide (9 < op) = true := by simp; omega
    clear h
    go_enter Try.func18, Try.ntmps18
    go_wp2
    go_ret2
    exact ⟨rfl, Below.refl _ _⟩

theorem RBin_64_bad (op : Int) (hop : op < 1 ∨ 9 < op) (x y : Nat) (w : World) : Calls Try.prog 18 #[.int .i64 64, .int .i64 op, .int .u64 x, .int .u64 y] w fun e w' => e = .returned (.tuple #[.int .u64 0, .int .i64 1]) ∧ Below w.heap.size w w' := by
  rcases hop with h | h
  · have o1 : decide (op < 1) = true := by simp; omega
    clear h
    go_enter Try.func18, Try.ntmps18
    go_wp2
    go_ret2
    exact ⟨rfl, Below.refl _ _⟩
  · have o1 : decide (op < 1) = false := by simp; omega
    have o2 : decide (9 < op) = true := by simp; omega
    clear h
    go_enter Try.func18, Try.ntmps18
    go_wp2
    go_ret2
    exact ⟨rfl, Below.refl _ _⟩

set_option maxHeartbeats 1600000 in
theorem walk_v (n op : Int) (a b X : Nat) (E K G : Int)
    (H17 : (∀ W, Hid (Calls Try.prog 17 #[.int .i64 n, .int .i64 op, .int .u64 (a : Int), .int .u64 (b : Int)] W fun e w' => e = .returned (.tuple #[.int .u64 (X : Int), .int .i64 E]) ∧ Below W.heap.size W w')))
    (H18 : (∀ W, Hid (Calls Try.prog 18 #[.int .i64 n, .int .i64 op, .int .u64 (a : Int), .int .u64 (b : Int)] W fun e w' => e = .returned (.tuple #[.int .u64 (X : Int), .int .i64 E]) ∧ Below W.heap.size W w')))
    (H19 : (∀ W, Hid (Calls Try.prog 19 #[.int .i64 n, .int .u64 (a : Int)] W fun e w' => e = .returned (.int .i64 K) ∧ Below W.heap.size W w')))
    (H20 : (∀ W, Hid (Calls Try.prog 20 #[.int .i64 n, .int .u64 (a : Int)] W fun e w' => e = .returned (.int .i64 K) ∧ Below W.heap.size W w')))
    (H21 : (∀ W, Hid (Calls Try.prog 21 #[.int .i64 n] W fun e w' => e = .returned (.int .u64 G) ∧ Below W.heap.size W w')))
    (H22 : (∀ W, Hid (Calls Try.prog 22 #[.int .i64 n] W fun e w' => e = .returned (.int .u64 G) ∧ Below W.heap.size W w'))) (w : World) :
    Calls Try.prog 3 #[.int .i64 n, .int .i64 op, .int .u64 (a : Int), .int .u64 (b : Int)] w fun e w' => e = .returned (.bool true) ∧ Below w.heap.size w w' := by
  have HA := fun W => hid (awake_any W)
  have hB : Below w.heap.size w w := Below.refl _ _
  go_enter Try.func3, Try.ntmps3
  go_wp2_with (first
    | (go_at_call 16; ((with_reducible refine (HA _).out.mono ?_); rintro e w1 ⟨rfl, hb⟩; replace hB := bnext hB hb; clear hb))
    | (go_at_call 17; ((with_reducible refine (H17 _).out.mono ?_); rintro e w1 ⟨rfl, hb⟩; replace hB := bnext hB hb; clear hb))
    | (go_at_call 18; ((with_reducible refine (H18 _).out.mono ?_); rintro e w1 ⟨rfl, hb⟩; replace hB := bnext hB hb; clear hb))
    | (go_at_call 19; ((with_reducible refine (H19 _).out.mono ?_); rintro e w1 ⟨rfl, hb⟩; replace hB := bnext hB hb; clear hb))
    | (go_at_call 20; ((with_reducible refine (H20 _).out.mono ?_); rintro e w1 ⟨rfl, hb⟩; replace hB := bnext hB hb; clear hb))
    | (go_at_call 21; ((with_reducible refine (H21 _).out.mono ?_); rintro e w1 ⟨rfl, hb⟩; replace hB := bnext hB hb; clear hb))
    | (go_at_call 22; ((with_reducible refine (H22 _).out.mono ?_); rintro e w1 ⟨rfl, hb⟩; replace hB := bnext hB hb; clear hb)))
  go_ret
  exact ⟨by first | rfl | simp, hB⟩

theorem walk_32 (op : Int) (a b : Nat) (ha : a < 18446744073709551616) (hb : b < 18446744073709551616) (w : World) :
    Calls Try.prog 3 #[.int .i64 32, .int .i64 op, .int .u64 (a : Int), .int .u64 (b : Int)] w fun e w' => e = .returned (.bool true) ∧ Below w.heap.size w w' := by
  have H19 := fun W => hid (Kind_32 a ha W)
  have H20 := fun W => hid (RKind_32 a ha W)
  have H21 := fun W => hid (Canonical_32 W)
  have H22 : ∀ W, Hid (Calls Try.prog 22 #[.int .i64 32] W fun e w' => e = .returned (.int .u64 2143289344) ∧ Below W.heap.size W w') := fun W => hid ((rcan_32 W).mono fun e w' ⟨h1, h2⟩ => ⟨h1, by rw [← h2]; exact Below.refl _ _⟩)
  by_cases hop : op < 1 ∨ 9 < op
  · exact walk_v 32 op a b 0 1 _ _ (fun W => hid (Bin_32_bad op hop a b ha hb W)) (fun W => hid (RBin_32_bad op hop a b W)) H19 H20 H21 H22 w
  · have h9 : op = 1 ∨ op = 2 ∨ op = 3 ∨ op = 4 ∨ op = 5 ∨ op = 6 ∨ op = 7 ∨ op = 8 ∨ op = 9 := by omega
    rcases h9 with rfl | rfl | rfl | rfl | rfl | rfl | rfl | rfl | rfl
    · exact walk_v 32 1 a b _ 0 _ _ (fun W => hid (Bin_32_1 a b ha hb W)) (fun W => hid (RBin_32_1 a b ha hb W)) H19 H20 H21 H22 w
    · exact walk_v 32 2 a b _ 0 _ _ (fun W => hid (Bin_32_2 a b ha hb W)) (fun W => hid (RBin_32_2 a b ha hb W)) H19 H20 H21 H22 w
    · exact walk_v 32 3 a b _ 0 _ _ (fun W => hid (Bin_32_3 a b ha hb W)) (fun W => hid (RBin_32_3 a b ha hb W)) H19 H20 H21 H22 w
    · exact walk_v 32 4 a b _ 0 _ _ (fun W => hid (Bin_32_4 a b ha hb W)) (fun W => hid (RBin_32_4 a b ha hb W)) H19 H20 H21 H22 w
    · exact walk_v 32 5 a b _ 0 _ _ (fun W => hid (Bin_32_5 a b ha hb W)) (fun W => hid (RBin_32_5 a b ha hb W)) H19 H20 H21 H22 w
    · exact walk_v 32 6 a b _ 0 _ _ (fun W => hid (Bin_32_6 a b ha hb W)) (fun W => hid (RBin_32_6 a b ha hb W)) H19 H20 H21 H22 w
    · exact walk_v 32 7 a b _ 0 _ _ (fun W => hid (Bin_32_7 a b ha hb W)) (fun W => hid (RBin_32_7 a b ha hb W)) H19 H20 H21 H22 w
    · exact walk_v 32 8 a b _ 0 _ _ (fun W => hid (Bin_32_8 a b ha hb W)) (fun W => hid (RBin_32_8 a b ha hb W)) H19 H20 H21 H22 w
    · exact walk_v 32 9 a b _ 0 _ _ (fun W => hid (Bin_32_9 a b ha hb W)) (fun W => hid (RBin_32_9 a b ha hb W)) H19 H20 H21 H22 w

theorem walk_64 (op : Int) (a b : Nat) (ha : a < 18446744073709551616) (hb : b < 18446744073709551616) (w : World) :
    Calls Try.prog 3 #[.int .i64 64, .int .i64 op, .int .u64 (a : Int), .int .u64 (b : Int)] w fun e w' => e = .returned (.bool true) ∧ Below w.heap.size w w' := by
  have H19 := fun W => hid (Kind_64 a ha W)
  have H20 := fun W => hid (RKind_64 a ha W)
  have H21 := fun W => hid (Canonical_64 W)
  have H22 : ∀ W, Hid (Calls Try.prog 22 #[.int .i64 64] W fun e w' => e = .returned (.int .u64 9221120237041090560) ∧ Below W.heap.size W w') := fun W => hid ((rcan_64 W).mono fun e w' ⟨h1, h2⟩ => ⟨h1, by rw [← h2]; exact Below.refl _ _⟩)
  by_cases hop : op < 1 ∨ 9 < op
  · exact walk_v 64 op a b 0 1 _ _ (fun W => hid (Bin_64_bad op hop a b ha hb W)) (fun W => hid (RBin_64_bad op hop a b W)) H19 H20 H21 H22 w
  · have h9 : op = 1 ∨ op = 2 ∨ op = 3 ∨ op = 4 ∨ op = 5 ∨ op = 6 ∨ op = 7 ∨ op = 8 ∨ op = 9 := by omega
    rcases h9 with rfl | rfl | rfl | rfl | rfl | rfl | rfl | rfl | rfl
    · exact walk_v 64 1 a b _ 0 _ _ (fun W => hid (Bin_64_1 a b ha hb W)) (fun W => hid (RBin_64_1 a b ha hb W)) H19 H20 H21 H22 w
    · exact walk_v 64 2 a b _ 0 _ _ (fun W => hid (Bin_64_2 a b ha hb W)) (fun W => hid (RBin_64_2 a b ha hb W)) H19 H20 H21 H22 w
    · exact walk_v 64 3 a b _ 0 _ _ (fun W => hid (Bin_64_3 a b ha hb W)) (fun W => hid (RBin_64_3 a b ha hb W)) H19 H20 H21 H22 w
    · exact walk_v 64 4 a b _ 0 _ _ (fun W => hid (Bin_64_4 a b ha hb W)) (fun W => hid (RBin_64_4 a b ha hb W)) H19 H20 H21 H22 w
    · exact walk_v 64 5 a b _ 0 _ _ (fun W => hid (Bin_64_5 a b ha hb W)) (fun W => hid (RBin_64_5 a b ha hb W)) H19 H20 H21 H22 w
    · exact walk_v 64 6 a b _ 0 _ _ (fun W => hid (Bin_64_6 a b ha hb W)) (fun W => hid (RBin_64_6 a b ha hb W)) H19 H20 H21 H22 w
    · exact walk_v 64 7 a b _ 0 _ _ (fun W => hid (Bin_64_7 a b ha hb W)) (fun W => hid (RBin_64_7 a b ha hb W)) H19 H20 H21 H22 w
    · exact walk_v 64 8 a b _ 0 _ _ (fun W => hid (Bin_64_8 a b ha hb W)) (fun W => hid (RBin_64_8 a b ha hb W)) H19 H20 H21 H22 w
    · exact walk_v 64 9 a b _ 0 _ _ (fun W => hid (Bin_64_9 a b ha hb W)) (fun W => hid (RBin_64_9 a b ha hb W)) H19 H20 H21 H22 w

theorem walk (a0 : Int) (a1 : Int) (a2 : Int) (a3 : Int) (w0 : (Lit.int .i64 a0).wf = true) (w1 : (Lit.int .i64 a1).wf = true) (w2 : (Lit.int .u64 a2).wf = true) (w3 : (Lit.int .u64 a3).wf = true) (w : World) :
    Calls Try.prog 3 #[.int .i64 a0, .int .i64 a1, .int .u64 a2, .int .u64 a3] w fun e w' => e = .returned (.bool true) ∧ Below w.heap.size w w' := by
  obtain ⟨a, rfl, ha⟩ := wf_nat w2
  obtain ⟨b, rfl, hb⟩ := wf_nat w3
  by_cases h32 : a0 = 32
  · subst h32; exact walk_32 a1 a b ha hb w
  · by_cases h64 : a0 = 64
    · subst h64; exact walk_64 a1 a b ha hb w
    · refine walk_v a0 a1 a b 0 1 0 0 (fun W => hid (Bin_no a0 h32 h64 a1 a b W)) (fun W => hid (RBin_no a0 h32 h64 a1 a b W)) (fun W => hid (Kind_no a0 h32 h64 a W)) (fun W => hid ((RKind_no a0 h32 h64 a W).mono fun e w' ⟨h1, h2⟩ => ⟨h1, by rw [← h2]; exact Below.refl _ _⟩)) (fun W => hid (Canonical_no a0 h32 h64 W)) (fun W => hid ((rcan_no a0 h32 h64 W).mono fun e w' ⟨h1, h2⟩ => ⟨h1, by rw [← h2]; exact Below.refl _ _⟩)) w

/-! ### The row's step -/
set_option maxRecDepth 100000 in
theorem lifted (os : Os) (started : os.Started) (H : Type) (enc : TypeId × Value → H) :
    ReturnsInHanded {} Try.checked os 3 .any (Rows.floatsBinSpec.pre6 enc Try.prog Try.f3 Rows.floatsBinRow.domain false) (Rows.floatsBinSpec.post enc Try.prog Try.f3 false true false false) := by
  refine returnsInHanded_of_change (C := Try.checked) own started (by kernel_rfl) Try.func3
    (ChangeSpec.witness6 (enc := enc) (C := Try.checked) false ⟨#[], #[.int .i64 0, .int .i64 0, .int .u64 0, .int .u64 0], []⟩ 8 (by kernel_rfl) (by kernel_rfl) (by kernel_rfl) (by kernel_rfl)) ?_
  intro W base args ds gs before hval0 hW hcnd _
  have hval : ∀ (j : Nat) t v, Try.f3.params[j]? = some t → args[j]? = some v → Value.okWide Try.prog W .any base t v := hval0
  have hW' := hW
  obtain ⟨p, q, hA0, hV, rfl, hfz, hnd⟩ := hW
  have hA : DataW.TrodAll enc Try.prog W 0 (fun _ => true) true Try.f3.params.toList args.toList ds p := hA0
  rw [Try.params3] at hA hval
  obtain ⟨v0, vs0, d0, ds0, p0, q0, hargs, rfl, rfl, h0, r0⟩ := trodAll_cons hA
  obtain ⟨v1, vs1, d1, ds1, p1, q1, rfl, rfl, rfl, h1, r1⟩ := trodAll_cons r0
  obtain ⟨v2, vs2, d2, ds2, p2, q2, rfl, rfl, rfl, h2, r2⟩ := trodAll_cons r1
  obtain ⟨v3, vs3, d3, ds3, p3, q3, rfl, rfl, rfl, h3, r3⟩ := trodAll_cons r2
  obtain ⟨rfl, rfl, rfl⟩ := trodAll_nil r3
  obtain rfl : args = #[v0, v1, v2, v3] := by cases args; simp_all
  obtain ⟨rfl, rfl⟩ := trodVars_none hV
  obtain ⟨a0, rfl, rfl, rfl, w0⟩ := open_int Try.underlying3 (hval 0 3 v0 rfl rfl) h0
  obtain ⟨a1, rfl, rfl, rfl, w1⟩ := open_int Try.underlying3 (hval 1 3 v1 rfl rfl) h1
  obtain ⟨a2, rfl, rfl, rfl, w2⟩ := open_int Try.underlying22 (hval 2 22 v2 rfl rfl) h2
  obtain ⟨a3, rfl, rfl, rfl, w3⟩ := open_int Try.underlying22 (hval 3 22 v3 rfl rfl) h3
  clear hA0 hval0
  simp only [List.append_nil] at hW'
  refine (walk a0 a1 a2 a3 w0 w1 w2 w3 W).mono fun e W' ⟨he, hg⟩ => ?_
  subst he
  exact ⟨_, rfl, _, _, _, [], [], [], hW', trodAll_mk1 (shut_bool Try.underlying4 _), (trodAll_cons_mk (shut_int Try.underlying3 w0) (trodAll_cons_mk (shut_int Try.underlying3 w1) (trodAll_cons_mk (shut_int Try.underlying22 w2) (trodAll_cons_mk (shut_int Try.underlying22 w3) trodAll_mk0)))), rfl, hg.frame _, fun h => by cases h⟩

theorem over : Rows.floatsBinRow.holds Try.pinned (OpenSpec.ofChange Rows.floatsBinSpec) :=
  OpenClaim.holds_of_wide 3 Try.f3 rfl rfl rfl rfl rfl rfl rfl ⟨rfl, rfl, rfl, rfl, rfl⟩ rfl rfl rfl rfl rfl (by kernel_rfl) Try.func3 (by kernel_rfl)
    (of_decide_eq_true (by kernel_rfl)) (by unfold Func.isWrapper; first | (rw [if_pos (by decide +kernel)]; kernel_rfl) | (rw [if_neg (by decide +kernel)]; exact ⟨rfl, rfl⟩))
    (fun os started H enc _ => lifted os started H enc)

/-- The statement. -/
theorem proved : Rows.FloatsBinSaid :=
  over
#print axioms proved
end Go.Proofs.Ytffceodbadedjaa.floatsBin
