/-
  FRTop: merged (each text says what it holds where it lies in wip). No condition.
-/
import Derived.Test.YtlhakbkdlgejpaaGreatDoorF12
set_option linter.unusedSimpArgs false
set_option linter.unusedVariables false
set_option maxRecDepth 100000
namespace Go.Proofs.YtlhakbkdlgejpaaGreatDoor.Fl
open Go.RowKit

theorem not_lt {x y : Int} (h : y ≤ x) : (some (compare x y) == some Ordering.lt) = false := by
  rcases Int.lt_trichotomy x y with h1 | h1 | h1
  · omega
  · rw [cmp_eq h1]; rfl
  · rw [cmp_gt h1]; rfl
theorem ge_or {x y : Int} (h : y ≤ x) : compare x y = .gt ∨ compare x y = .eq := by
  rcases Int.lt_trichotomy x y with h1 | h1 | h1
  · omega
  · exact .inr (cmp_eq h1)
  · exact .inl (cmp_gt h1)
theorem infb_big : 36893488147419103232 < INFB := by decide +kernel
theorem sgn_t (M : Nat) : sgn true M = -(M : Int) := rfl
theorem sgn_f (M : Nat) : sgn false M = (M : Int) := rfl
theorem ro_fin {s : Bool} {M tv : Nat} (h : Ro s M tv) (hM : M ≤ 36893488147419103232) : Rd s M tv := by
  rcases h with h | ⟨_, h⟩
  · exact h
  · have := infb_big; omega
theorem wrap_back63 (M : Nat) (h1 : 9223372036854775808 ≤ M) (h2 : M < 18446744073709551616) : IntKind.u64.wrap (IntKind.u64.wrap ((M : Int) - 9223372036854775808) + 9223372036854775808) = (M : Int) := by
  rw [IntKind.wrap_u64, IntKind.wrap_u64]; omega
theorem mag_inf : mag 1 1024 = INFB := by
  unfold mag
  rw [if_neg (by decide), Nat.one_mul]
  exact congrArg (fun k => (2 : Nat) ^ k) (show Int.toNat 1024 = infE from rfl)

theorem RP_32_32_true (a v tv M : Nat) (sat neg : Bool) (hro : Ro neg M tv)
    (HVA : ∀ W, Hid (Calls Tryz.prog 251 #[.int .i64 32, .int .u64 (a : Int)] W fun e w' => e = .returned (.float .f64 v) ∧ Below W.heap.size W w'))
    (HT : ∀ W, Hid (Calls Tryz.prog 221 #[.float .f64 v] W fun e w' => e = .returned (.float .f64 tv) ∧ W = w'))
    (t0 : (FloatKind.f64.format.order v v != some .eq) = false) (w : World) :
    Say 211 #[.int .i64 32, .int .i64 32, .bool true, .bool sat, .int .u64 (a : Int)] w (.tuple #[.int .u64 ((truncM 32 true sat neg M).1 : Int), .int .i64 (truncM 32 true sat neg M).2]) := by
  cases neg with
  | true =>
    by_cases hin : M ≤ 2147483648
    · have hv : truncM 32 true sat true M = ((4294967296 - M) % 4294967296, 0) := by unfold truncM; rw [if_pos (show M ≤ bnd 32 true true from hin), if_pos rfl]
      rw [hv]
      have hrd := ro_fin hro (by omega)
      by_cases h0 : M = 0
      · 
        have hz := conv_k hrd (by simp only [sgn_t]; omega) (by simp only [sgn_t]; omega)
        rw [h0] at hz
        rw [h0, show (4294967296 - 0) % 4294967296 = 0 by decide]
        rw [h0] at hro
        exact RT_32_32_true_C2 a v tv sat 0 (by decide) hz HVA HT t0 (by rw [show FloatKind.f64.format.order tv 13970166044103278592 = _ from (order_k hro kc_n31 (by have := infb_big; omega))]; exact not_lt (by simp only [sgn_t, sgn_f]; omega)) (((order_k hro kc_31 (by have := infb_big; omega))).trans (congrArg some (cmp_lt (by simp only [sgn_t, sgn_f]; omega)))) (by rw [show FloatKind.f64.format.order tv 0 = _ from (order_k hro kc_0 (by have := infb_big; omega))]; exact not_lt (by simp only [sgn_t, sgn_f]; omega)) (((order_k hro kc_63 (by have := infb_big; omega))).trans (congrArg some (cmp_lt (by simp only [sgn_t, sgn_f]; omega)))) w
      · have hz := conv_k hrd (by simp only [sgn_t]; omega) (by simp only [sgn_t]; omega)
        have hq := cutneg_32 M hin
        have hwr := wrap_neg M (by omega)
        have HC : ∀ W, Hid (Calls Tryz.prog 81 #[.int .i64 32, .int .u64 (((18446744073709551616 - M) % 18446744073709551616 : Nat) : Int)] W fun e w' => e = .returned (.int .u64 (((4294967296 - M) % 4294967296 : Nat) : Int)) ∧ W = w') := fun W => hid (by
          have := Cut_any 32 (.inl rfl) ((18446744073709551616 - M) % 18446744073709551616) (Nat.mod_lt _ (by decide)) W
          rw [show (2 : Nat) ^ 32 = 4294967296 by decide, hq] at this
          exact this)
        exact RT_32_32_true_C1 a v tv sat _ _ _ hwr hz HVA HT t0 (by rw [show FloatKind.f64.format.order tv 13970166044103278592 = _ from (order_k hro kc_n31 (by have := infb_big; omega))]; exact not_lt (by simp only [sgn_t, sgn_f]; omega)) (((order_k hro kc_31 (by have := infb_big; omega))).trans (congrArg some (cmp_lt (by simp only [sgn_t, sgn_f]; omega)))) (((order_k hro kc_0 (by have := infb_big; omega))).trans (congrArg some (cmp_lt (by simp only [sgn_t, sgn_f]; omega)))) HC w
    · cases sat with
      | false =>
        rw [show truncM 32 true false true M = (0, 42) by unfold truncM; rw [if_neg (show ¬ M ≤ bnd 32 true true from hin), if_neg (by decide)]]
        exact RT_32_32_true_A0 a v tv HVA HT t0 (((order_k hro kc_n31 (by have := infb_big; omega))).trans (congrArg some (cmp_lt (by simp only [sgn_t, sgn_f]; omega)))) w
      | true =>
        rw [show truncM 32 true true true M = (2147483648, 0) by unfold truncM; rw [if_neg (show ¬ M ≤ bnd 32 true true from hin), if_pos rfl]; decide]
        exact RT_32_32_true_A1 a v tv HVA HT t0 (((order_k hro kc_n31 (by have := infb_big; omega))).trans (congrArg some (cmp_lt (by simp only [sgn_t, sgn_f]; omega)))) w
  | false =>
    by_cases hin : M ≤ 2147483647
    · have hv : truncM 32 true sat false M = (M, 0) := by unfold truncM; rw [if_pos (show M ≤ bnd 32 true false from hin), if_neg (by decide), Nat.mod_eq_of_lt (show M < 2 ^ 32 from Nat.lt_of_le_of_lt hin (by decide))]
      rw [hv]
      have hrd := ro_fin hro (by omega)
      have hz := conv_k hrd (by simp only [sgn_f]; omega) (by simp only [sgn_f]; omega)
      exact RT_32_32_true_C2 a v tv sat M (by omega) hz HVA HT t0 (by rw [show FloatKind.f64.format.order tv 13970166044103278592 = _ from (order_k hro kc_n31 (by have := infb_big; omega))]; exact not_lt (by simp only [sgn_t, sgn_f]; omega)) (((order_k hro kc_31 (by have := infb_big; omega))).trans (congrArg some (cmp_lt (by simp only [sgn_t, sgn_f]; omega)))) (by rw [show FloatKind.f64.format.order tv 0 = _ from (order_k hro kc_0 (by have := infb_big; omega))]; exact not_lt (by simp only [sgn_t, sgn_f]; omega)) (((order_k hro kc_63 (by have := infb_big; omega))).trans (congrArg some (cmp_lt (by simp only [sgn_t, sgn_f]; omega)))) w
    · cases sat with
      | false =>
        rw [show truncM 32 true false false M = (0, 42) by unfold truncM; rw [if_neg (show ¬ M ≤ bnd 32 true false from hin), if_neg (by decide)]]
        exact RT_32_32_true_B0 a v tv _ (ge_or (x := sgn false M) (y := sgn false 2147483648) (by simp only [sgn_f]; omega)) HVA HT t0 (by rw [show FloatKind.f64.format.order tv 13970166044103278592 = _ from (order_k hro kc_n31 (by have := infb_big; omega))]; exact not_lt (by simp only [sgn_t, sgn_f]; omega)) (order_k hro kc_31 (by have := infb_big; omega)) w
      | true =>
        rw [show truncM 32 true true false M = (2147483647, 0) by unfold truncM; rw [if_neg (show ¬ M ≤ bnd 32 true false from hin), if_pos rfl]; decide]
        exact RT_32_32_true_B1 a v tv _ (ge_or (x := sgn false M) (y := sgn false 2147483648) (by simp only [sgn_f]; omega)) HVA HT t0 (by rw [show FloatKind.f64.format.order tv 13970166044103278592 = _ from (order_k hro kc_n31 (by have := infb_big; omega))]; exact not_lt (by simp only [sgn_t, sgn_f]; omega)) (order_k hro kc_31 (by have := infb_big; omega)) w

theorem RP_32_32_false (a v tv M : Nat) (sat neg : Bool) (hro : Ro neg M tv)
    (HVA : ∀ W, Hid (Calls Tryz.prog 251 #[.int .i64 32, .int .u64 (a : Int)] W fun e w' => e = .returned (.float .f64 v) ∧ Below W.heap.size W w'))
    (HT : ∀ W, Hid (Calls Tryz.prog 221 #[.float .f64 v] W fun e w' => e = .returned (.float .f64 tv) ∧ W = w'))
    (t0 : (FloatKind.f64.format.order v v != some .eq) = false) (w : World) :
    Say 211 #[.int .i64 32, .int .i64 32, .bool false, .bool sat, .int .u64 (a : Int)] w (.tuple #[.int .u64 ((truncM 32 false sat neg M).1 : Int), .int .i64 (truncM 32 false sat neg M).2]) := by
  cases neg with
  | true =>
    by_cases hin : M ≤ 0
    · have hv : truncM 32 false sat true M = ((4294967296 - M) % 4294967296, 0) := by unfold truncM; rw [if_pos (show M ≤ bnd 32 false true from hin), if_pos rfl]
      rw [hv]
      have hrd := ro_fin hro (by omega)
      have h0 : M = 0 := by omega
      have hz := conv_k hrd (by simp only [sgn_t]; omega) (by simp only [sgn_t]; omega)
      rw [h0] at hz
      rw [h0, show (4294967296 - 0) % 4294967296 = 0 by decide]
      rw [h0] at hro
      exact RT_32_32_false_C2 a v tv sat 0 (by decide) hz HVA HT t0 (by rw [show FloatKind.f64.format.order tv 0 = _ from (order_k hro kc_0 (by have := infb_big; omega))]; exact not_lt (by simp only [sgn_t, sgn_f]; omega)) (((order_k hro kc_32 (by have := infb_big; omega))).trans (congrArg some (cmp_lt (by simp only [sgn_t, sgn_f]; omega)))) (((order_k hro kc_63 (by have := infb_big; omega))).trans (congrArg some (cmp_lt (by simp only [sgn_t, sgn_f]; omega)))) w
    · cases sat with
      | false =>
        rw [show truncM 32 false false true M = (0, 42) by unfold truncM; rw [if_neg (show ¬ M ≤ bnd 32 false true from hin), if_neg (by decide)]]
        exact RT_32_32_false_A0 a v tv HVA HT t0 (((order_k hro kc_0 (by have := infb_big; omega))).trans (congrArg some (cmp_lt (by simp only [sgn_t, sgn_f]; omega)))) w
      | true =>
        rw [show truncM 32 false true true M = (0, 0) by unfold truncM; rw [if_neg (show ¬ M ≤ bnd 32 false true from hin), if_pos rfl]; decide]
        exact RT_32_32_false_A1 a v tv HVA HT t0 (((order_k hro kc_0 (by have := infb_big; omega))).trans (congrArg some (cmp_lt (by simp only [sgn_t, sgn_f]; omega)))) w
  | false =>
    by_cases hin : M ≤ 4294967295
    · have hv : truncM 32 false sat false M = (M, 0) := by unfold truncM; rw [if_pos (show M ≤ bnd 32 false false from hin), if_neg (by decide), Nat.mod_eq_of_lt (show M < 2 ^ 32 from Nat.lt_of_le_of_lt hin (by decide))]
      rw [hv]
      have hrd := ro_fin hro (by omega)
      have hz := conv_k hrd (by simp only [sgn_f]; omega) (by simp only [sgn_f]; omega)
      exact RT_32_32_false_C2 a v tv sat M (by omega) hz HVA HT t0 (by rw [show FloatKind.f64.format.order tv 0 = _ from (order_k hro kc_0 (by have := infb_big; omega))]; exact not_lt (by simp only [sgn_t, sgn_f]; omega)) (((order_k hro kc_32 (by have := infb_big; omega))).trans (congrArg some (cmp_lt (by simp only [sgn_t, sgn_f]; omega)))) (((order_k hro kc_63 (by have := infb_big; omega))).trans (congrArg some (cmp_lt (by simp only [sgn_t, sgn_f]; omega)))) w
    · cases sat with
      | false =>
        rw [show truncM 32 false false false M = (0, 42) by unfold truncM; rw [if_neg (show ¬ M ≤ bnd 32 false false from hin), if_neg (by decide)]]
        exact RT_32_32_false_B0 a v tv _ (ge_or (x := sgn false M) (y := sgn false 4294967296) (by simp only [sgn_f]; omega)) HVA HT t0 (by rw [show FloatKind.f64.format.order tv 0 = _ from (order_k hro kc_0 (by have := infb_big; omega))]; exact not_lt (by simp only [sgn_t, sgn_f]; omega)) (order_k hro kc_32 (by have := infb_big; omega)) w
      | true =>
        rw [show truncM 32 false true false M = (4294967295, 0) by unfold truncM; rw [if_neg (show ¬ M ≤ bnd 32 false false from hin), if_pos rfl]; decide]
        exact RT_32_32_false_B1 a v tv _ (ge_or (x := sgn false M) (y := sgn false 4294967296) (by simp only [sgn_f]; omega)) HVA HT t0 (by rw [show FloatKind.f64.format.order tv 0 = _ from (order_k hro kc_0 (by have := infb_big; omega))]; exact not_lt (by simp only [sgn_t, sgn_f]; omega)) (order_k hro kc_32 (by have := infb_big; omega)) w

theorem RP_32_64_true (a v tv M : Nat) (sat neg : Bool) (hro : Ro neg M tv)
    (HVA : ∀ W, Hid (Calls Tryz.prog 251 #[.int .i64 32, .int .u64 (a : Int)] W fun e w' => e = .returned (.float .f64 v) ∧ Below W.heap.size W w'))
    (HT : ∀ W, Hid (Calls Tryz.prog 221 #[.float .f64 v] W fun e w' => e = .returned (.float .f64 tv) ∧ W = w'))
    (t0 : (FloatKind.f64.format.order v v != some .eq) = false) (w : World) :
    Say 211 #[.int .i64 32, .int .i64 64, .bool true, .bool sat, .int .u64 (a : Int)] w (.tuple #[.int .u64 ((truncM 64 true sat neg M).1 : Int), .int .i64 (truncM 64 true sat neg M).2]) := by
  cases neg with
  | true =>
    by_cases hin : M ≤ 9223372036854775808
    · have hv : truncM 64 true sat true M = ((18446744073709551616 - M) % 18446744073709551616, 0) := by unfold truncM; rw [if_pos (show M ≤ bnd 64 true true from hin), if_pos rfl]
      rw [hv]
      have hrd := ro_fin hro (by omega)
      by_cases h0 : M = 0
      · 
        have hz := conv_k hrd (by simp only [sgn_t]; omega) (by simp only [sgn_t]; omega)
        rw [h0] at hz
        rw [h0, show (18446744073709551616 - 0) % 18446744073709551616 = 0 by decide]
        rw [h0] at hro
        exact RT_32_64_true_C2 a v tv sat 0 (by decide) hz HVA HT t0 (by rw [show FloatKind.f64.format.order tv 14114281232179134464 = _ from (order_k hro kc_n63 (by have := infb_big; omega))]; exact not_lt (by simp only [sgn_t, sgn_f]; omega)) (((order_k hro kc_63 (by have := infb_big; omega))).trans (congrArg some (cmp_lt (by simp only [sgn_t, sgn_f]; omega)))) (by rw [show FloatKind.f64.format.order tv 0 = _ from (order_k hro kc_0 (by have := infb_big; omega))]; exact not_lt (by simp only [sgn_t, sgn_f]; omega)) w
      · have hz := conv_k hrd (by simp only [sgn_t]; omega) (by simp only [sgn_t]; omega)
        have hq := cutneg_64 M hin
        have hwr := wrap_neg M (by omega)
        have HC : ∀ W, Hid (Calls Tryz.prog 81 #[.int .i64 64, .int .u64 (((18446744073709551616 - M) % 18446744073709551616 : Nat) : Int)] W fun e w' => e = .returned (.int .u64 (((18446744073709551616 - M) % 18446744073709551616 : Nat) : Int)) ∧ W = w') := fun W => hid (by
          have := Cut_any 64 (.inr rfl) ((18446744073709551616 - M) % 18446744073709551616) (Nat.mod_lt _ (by decide)) W
          rw [show (2 : Nat) ^ 64 = 18446744073709551616 by decide, hq] at this
          exact this)
        exact RT_32_64_true_C1 a v tv sat _ _ _ hwr hz HVA HT t0 (by rw [show FloatKind.f64.format.order tv 14114281232179134464 = _ from (order_k hro kc_n63 (by have := infb_big; omega))]; exact not_lt (by simp only [sgn_t, sgn_f]; omega)) (((order_k hro kc_63 (by have := infb_big; omega))).trans (congrArg some (cmp_lt (by simp only [sgn_t, sgn_f]; omega)))) (((order_k hro kc_0 (by have := infb_big; omega))).trans (congrArg some (cmp_lt (by simp only [sgn_t, sgn_f]; omega)))) HC w
    · cases sat with
      | false =>
        rw [show truncM 64 true false true M = (0, 42) by unfold truncM; rw [if_neg (show ¬ M ≤ bnd 64 true true from hin), if_neg (by decide)]]
        exact RT_32_64_true_A0 a v tv HVA HT t0 (((order_k hro kc_n63 (by have := infb_big; omega))).trans (congrArg some (cmp_lt (by simp only [sgn_t, sgn_f]; omega)))) w
      | true =>
        rw [show truncM 64 true true true M = (9223372036854775808, 0) by unfold truncM; rw [if_neg (show ¬ M ≤ bnd 64 true true from hin), if_pos rfl]; decide]
        exact RT_32_64_true_A1 a v tv HVA HT t0 (((order_k hro kc_n63 (by have := infb_big; omega))).trans (congrArg some (cmp_lt (by simp only [sgn_t, sgn_f]; omega)))) w
  | false =>
    by_cases hin : M ≤ 9223372036854775807
    · have hv : truncM 64 true sat false M = (M, 0) := by unfold truncM; rw [if_pos (show M ≤ bnd 64 true false from hin), if_neg (by decide), Nat.mod_eq_of_lt (show M < 2 ^ 64 from Nat.lt_of_le_of_lt hin (by decide))]
      rw [hv]
      have hrd := ro_fin hro (by omega)
      have hz := conv_k hrd (by simp only [sgn_f]; omega) (by simp only [sgn_f]; omega)
      exact RT_32_64_true_C2 a v tv sat M (by omega) hz HVA HT t0 (by rw [show FloatKind.f64.format.order tv 14114281232179134464 = _ from (order_k hro kc_n63 (by have := infb_big; omega))]; exact not_lt (by simp only [sgn_t, sgn_f]; omega)) (((order_k hro kc_63 (by have := infb_big; omega))).trans (congrArg some (cmp_lt (by simp only [sgn_t, sgn_f]; omega)))) (by rw [show FloatKind.f64.format.order tv 0 = _ from (order_k hro kc_0 (by have := infb_big; omega))]; exact not_lt (by simp only [sgn_t, sgn_f]; omega)) w
    · cases sat with
      | false =>
        rw [show truncM 64 true false false M = (0, 42) by unfold truncM; rw [if_neg (show ¬ M ≤ bnd 64 true false from hin), if_neg (by decide)]]
        exact RT_32_64_true_B0 a v tv _ (ge_or (x := sgn false M) (y := sgn false 9223372036854775808) (by simp only [sgn_f]; omega)) HVA HT t0 (by rw [show FloatKind.f64.format.order tv 14114281232179134464 = _ from (order_k hro kc_n63 (by have := infb_big; omega))]; exact not_lt (by simp only [sgn_t, sgn_f]; omega)) (order_k hro kc_63 (by have := infb_big; omega)) w
      | true =>
        rw [show truncM 64 true true false M = (9223372036854775807, 0) by unfold truncM; rw [if_neg (show ¬ M ≤ bnd 64 true false from hin), if_pos rfl]; decide]
        exact RT_32_64_true_B1 a v tv _ (ge_or (x := sgn false M) (y := sgn false 9223372036854775808) (by simp only [sgn_f]; omega)) HVA HT t0 (by rw [show FloatKind.f64.format.order tv 14114281232179134464 = _ from (order_k hro kc_n63 (by have := infb_big; omega))]; exact not_lt (by simp only [sgn_t, sgn_f]; omega)) (order_k hro kc_63 (by have := infb_big; omega)) w

theorem RP_32_64_false (a v tv M : Nat) (sat neg : Bool) (hro : Ro neg M tv)
    (HVA : ∀ W, Hid (Calls Tryz.prog 251 #[.int .i64 32, .int .u64 (a : Int)] W fun e w' => e = .returned (.float .f64 v) ∧ Below W.heap.size W w'))
    (HT : ∀ W, Hid (Calls Tryz.prog 221 #[.float .f64 v] W fun e w' => e = .returned (.float .f64 tv) ∧ W = w'))
    (t0 : (FloatKind.f64.format.order v v != some .eq) = false) (w : World) :
    Say 211 #[.int .i64 32, .int .i64 64, .bool false, .bool sat, .int .u64 (a : Int)] w (.tuple #[.int .u64 ((truncM 64 false sat neg M).1 : Int), .int .i64 (truncM 64 false sat neg M).2]) := by
  cases neg with
  | true =>
    by_cases hin : M ≤ 0
    · have hv : truncM 64 false sat true M = ((18446744073709551616 - M) % 18446744073709551616, 0) := by unfold truncM; rw [if_pos (show M ≤ bnd 64 false true from hin), if_pos rfl]
      rw [hv]
      have hrd := ro_fin hro (by omega)
      have h0 : M = 0 := by omega
      have hz := conv_k hrd (by simp only [sgn_t]; omega) (by simp only [sgn_t]; omega)
      rw [h0] at hz
      rw [h0, show (18446744073709551616 - 0) % 18446744073709551616 = 0 by decide]
      rw [h0] at hro
      exact RT_32_64_false_C2 a v tv sat 0 (by decide) hz HVA HT t0 (by rw [show FloatKind.f64.format.order tv 0 = _ from (order_k hro kc_0 (by have := infb_big; omega))]; exact not_lt (by simp only [sgn_t, sgn_f]; omega)) (((order_k hro kc_64 (by have := infb_big; omega))).trans (congrArg some (cmp_lt (by simp only [sgn_t, sgn_f]; omega)))) (((order_k hro kc_63 (by have := infb_big; omega))).trans (congrArg some (cmp_lt (by simp only [sgn_t, sgn_f]; omega)))) w
    · cases sat with
      | false =>
        rw [show truncM 64 false false true M = (0, 42) by unfold truncM; rw [if_neg (show ¬ M ≤ bnd 64 false true from hin), if_neg (by decide)]]
        exact RT_32_64_false_A0 a v tv HVA HT t0 (((order_k hro kc_0 (by have := infb_big; omega))).trans (congrArg some (cmp_lt (by simp only [sgn_t, sgn_f]; omega)))) w
      | true =>
        rw [show truncM 64 false true true M = (0, 0) by unfold truncM; rw [if_neg (show ¬ M ≤ bnd 64 false true from hin), if_pos rfl]; decide]
        exact RT_32_64_false_A1 a v tv HVA HT t0 (((order_k hro kc_0 (by have := infb_big; omega))).trans (congrArg some (cmp_lt (by simp only [sgn_t, sgn_f]; omega)))) w
  | false =>
    by_cases hin : M ≤ 18446744073709551615
    · have hv : truncM 64 false sat false M = (M, 0) := by unfold truncM; rw [if_pos (show M ≤ bnd 64 false false from hin), if_neg (by decide), Nat.mod_eq_of_lt (show M < 2 ^ 64 from Nat.lt_of_le_of_lt hin (by decide))]
      rw [hv]
      have hrd := ro_fin hro (by omega)
      by_cases hb : M < 9223372036854775808
      · have hz := conv_k hrd (by simp only [sgn_f]; omega) (by simp only [sgn_f]; omega)
        exact RT_32_64_false_C2 a v tv sat M (by omega) hz HVA HT t0 (by rw [show FloatKind.f64.format.order tv 0 = _ from (order_k hro kc_0 (by have := infb_big; omega))]; exact not_lt (by simp only [sgn_t, sgn_f]; omega)) (((order_k hro kc_64 (by have := infb_big; omega))).trans (congrArg some (cmp_lt (by simp only [sgn_t, sgn_f]; omega)))) (((order_k hro kc_63 (by have := infb_big; omega))).trans (congrArg some (cmp_lt (by simp only [sgn_t, sgn_f]; omega)))) w
      · obtain ⟨r, h1, h2⟩ := sub_k hrd (by omega) (by omega)
        exact RT_32_64_false_C3 a v tv sat _ (ge_or (x := sgn false M) (y := sgn false 9223372036854775808) (by simp only [sgn_f]; omega)) M r _ h1 h2 (wrap_back63 M (by omega) (by omega)) HVA HT t0 (by rw [show FloatKind.f64.format.order tv 0 = _ from (order_k hro kc_0 (by have := infb_big; omega))]; exact not_lt (by simp only [sgn_t, sgn_f]; omega)) (((order_k hro kc_64 (by have := infb_big; omega))).trans (congrArg some (cmp_lt (by simp only [sgn_t, sgn_f]; omega)))) (order_k hro kc_63 (by have := infb_big; omega)) w
    · cases sat with
      | false =>
        rw [show truncM 64 false false false M = (0, 42) by unfold truncM; rw [if_neg (show ¬ M ≤ bnd 64 false false from hin), if_neg (by decide)]]
        exact RT_32_64_false_B0 a v tv _ (ge_or (x := sgn false M) (y := sgn false 18446744073709551616) (by simp only [sgn_f]; omega)) HVA HT t0 (by rw [show FloatKind.f64.format.order tv 0 = _ from (order_k hro kc_0 (by have := infb_big; omega))]; exact not_lt (by simp only [sgn_t, sgn_f]; omega)) (order_k hro kc_64 (by have := infb_big; omega)) w
      | true =>
        rw [show truncM 64 false true false M = (18446744073709551615, 0) by unfold truncM; rw [if_neg (show ¬ M ≤ bnd 64 false false from hin), if_pos rfl]; decide]
        exact RT_32_64_false_B1 a v tv _ (ge_or (x := sgn false M) (y := sgn false 18446744073709551616) (by simp only [sgn_f]; omega)) HVA HT t0 (by rw [show FloatKind.f64.format.order tv 0 = _ from (order_k hro kc_0 (by have := infb_big; omega))]; exact not_lt (by simp only [sgn_t, sgn_f]; omega)) (order_k hro kc_64 (by have := infb_big; omega)) w

theorem RP_64_32_true (a v tv M : Nat) (sat neg : Bool) (hro : Ro neg M tv)
    (HVA : ∀ W, Hid (Calls Tryz.prog 251 #[.int .i64 64, .int .u64 (a : Int)] W fun e w' => e = .returned (.float .f64 v) ∧ Below W.heap.size W w'))
    (HT : ∀ W, Hid (Calls Tryz.prog 221 #[.float .f64 v] W fun e w' => e = .returned (.float .f64 tv) ∧ W = w'))
    (t0 : (FloatKind.f64.format.order v v != some .eq) = false) (w : World) :
    Say 211 #[.int .i64 64, .int .i64 32, .bool true, .bool sat, .int .u64 (a : Int)] w (.tuple #[.int .u64 ((truncM 32 true sat neg M).1 : Int), .int .i64 (truncM 32 true sat neg M).2]) := by
  cases neg with
  | true =>
    by_cases hin : M ≤ 2147483648
    · have hv : truncM 32 true sat true M = ((4294967296 - M) % 4294967296, 0) := by unfold truncM; rw [if_pos (show M ≤ bnd 32 true true from hin), if_pos rfl]
      rw [hv]
      have hrd := ro_fin hro (by omega)
      by_cases h0 : M = 0
      · 
        have hz := conv_k hrd (by simp only [sgn_t]; omega) (by simp only [sgn_t]; omega)
        rw [h0] at hz
        rw [h0, show (4294967296 - 0) % 4294967296 = 0 by decide]
        rw [h0] at hro
        exact RT_64_32_true_C2 a v tv sat 0 (by decide) hz HVA HT t0 (by rw [show FloatKind.f64.format.order tv 13970166044103278592 = _ from (order_k hro kc_n31 (by have := infb_big; omega))]; exact not_lt (by simp only [sgn_t, sgn_f]; omega)) (((order_k hro kc_31 (by have := infb_big; omega))).trans (congrArg some (cmp_lt (by simp only [sgn_t, sgn_f]; omega)))) (by rw [show FloatKind.f64.format.order tv 0 = _ from (order_k hro kc_0 (by have := infb_big; omega))]; exact not_lt (by simp only [sgn_t, sgn_f]; omega)) (((order_k hro kc_63 (by have := infb_big; omega))).trans (congrArg some (cmp_lt (by simp only [sgn_t, sgn_f]; omega)))) w
      · have hz := conv_k hrd (by simp only [sgn_t]; omega) (by simp only [sgn_t]; omega)
        have hq := cutneg_32 M hin
        have hwr := wrap_neg M (by omega)
        have HC : ∀ W, Hid (Calls Tryz.prog 81 #[.int .i64 32, .int .u64 (((18446744073709551616 - M) % 18446744073709551616 : Nat) : Int)] W fun e w' => e = .returned (.int .u64 (((4294967296 - M) % 4294967296 : Nat) : Int)) ∧ W = w') := fun W => hid (by
          have := Cut_any 32 (.inl rfl) ((18446744073709551616 - M) % 18446744073709551616) (Nat.mod_lt _ (by decide)) W
          rw [show (2 : Nat) ^ 32 = 4294967296 by decide, hq] at this
          exact this)
        exact RT_64_32_true_C1 a v tv sat _ _ _ hwr hz HVA HT t0 (by rw [show FloatKind.f64.format.order tv 13970166044103278592 = _ from (order_k hro kc_n31 (by have := infb_big; omega))]; exact not_lt (by simp only [sgn_t, sgn_f]; omega)) (((order_k hro kc_31 (by have := infb_big; omega))).trans (congrArg some (cmp_lt (by simp only [sgn_t, sgn_f]; omega)))) (((order_k hro kc_0 (by have := infb_big; omega))).trans (congrArg some (cmp_lt (by simp only [sgn_t, sgn_f]; omega)))) HC w
    · cases sat with
      | false =>
        rw [show truncM 32 true false true M = (0, 42) by unfold truncM; rw [if_neg (show ¬ M ≤ bnd 32 true true from hin), if_neg (by decide)]]
        exact RT_64_32_true_A0 a v tv HVA HT t0 (((order_k hro kc_n31 (by have := infb_big; omega))).trans (congrArg some (cmp_lt (by simp only [sgn_t, sgn_f]; omega)))) w
      | true =>
        rw [show truncM 32 true true true M = (2147483648, 0) by unfold truncM; rw [if_neg (show ¬ M ≤ bnd 32 true true from hin), if_pos rfl]; decide]
        exact RT_64_32_true_A1 a v tv HVA HT t0 (((order_k hro kc_n31 (by have := infb_big; omega))).trans (congrArg some (cmp_lt (by simp only [sgn_t, sgn_f]; omega)))) w
  | false =>
    by_cases hin : M ≤ 2147483647
    · have hv : truncM 32 true sat false M = (M, 0) := by unfold truncM; rw [if_pos (show M ≤ bnd 32 true false from hin), if_neg (by decide), Nat.mod_eq_of_lt (show M < 2 ^ 32 from Nat.lt_of_le_of_lt hin (by decide))]
      rw [hv]
      have hrd := ro_fin hro (by omega)
      have hz := conv_k hrd (by simp only [sgn_f]; omega) (by simp only [sgn_f]; omega)
      exact RT_64_32_true_C2 a v tv sat M (by omega) hz HVA HT t0 (by rw [show FloatKind.f64.format.order tv 13970166044103278592 = _ from (order_k hro kc_n31 (by have := infb_big; omega))]; exact not_lt (by simp only [sgn_t, sgn_f]; omega)) (((order_k hro kc_31 (by have := infb_big; omega))).trans (congrArg some (cmp_lt (by simp only [sgn_t, sgn_f]; omega)))) (by rw [show FloatKind.f64.format.order tv 0 = _ from (order_k hro kc_0 (by have := infb_big; omega))]; exact not_lt (by simp only [sgn_t, sgn_f]; omega)) (((order_k hro kc_63 (by have := infb_big; omega))).trans (congrArg some (cmp_lt (by simp only [sgn_t, sgn_f]; omega)))) w
    · cases sat with
      | false =>
        rw [show truncM 32 true false false M = (0, 42) by unfold truncM; rw [if_neg (show ¬ M ≤ bnd 32 true false from hin), if_neg (by decide)]]
        exact RT_64_32_true_B0 a v tv _ (ge_or (x := sgn false M) (y := sgn false 2147483648) (by simp only [sgn_f]; omega)) HVA HT t0 (by rw [show FloatKind.f64.format.order tv 13970166044103278592 = _ from (order_k hro kc_n31 (by have := infb_big; omega))]; exact not_lt (by simp only [sgn_t, sgn_f]; omega)) (order_k hro kc_31 (by have := infb_big; omega)) w
      | true =>
        rw [show truncM 32 true true false M = (2147483647, 0) by unfold truncM; rw [if_neg (show ¬ M ≤ bnd 32 true false from hin), if_pos rfl]; decide]
        exact RT_64_32_true_B1 a v tv _ (ge_or (x := sgn false M) (y := sgn false 2147483648) (by simp only [sgn_f]; omega)) HVA HT t0 (by rw [show FloatKind.f64.format.order tv 13970166044103278592 = _ from (order_k hro kc_n31 (by have := infb_big; omega))]; exact not_lt (by simp only [sgn_t, sgn_f]; omega)) (order_k hro kc_31 (by have := infb_big; omega)) w

theorem RP_64_32_false (a v tv M : Nat) (sat neg : Bool) (hro : Ro neg M tv)
    (HVA : ∀ W, Hid (Calls Tryz.prog 251 #[.int .i64 64, .int .u64 (a : Int)] W fun e w' => e = .returned (.float .f64 v) ∧ Below W.heap.size W w'))
    (HT : ∀ W, Hid (Calls Tryz.prog 221 #[.float .f64 v] W fun e w' => e = .returned (.float .f64 tv) ∧ W = w'))
    (t0 : (FloatKind.f64.format.order v v != some .eq) = false) (w : World) :
    Say 211 #[.int .i64 64, .int .i64 32, .bool false, .bool sat, .int .u64 (a : Int)] w (.tuple #[.int .u64 ((truncM 32 false sat neg M).1 : Int), .int .i64 (truncM 32 false sat neg M).2]) := by
  cases neg with
  | true =>
    by_cases hin : M ≤ 0
    · have hv : truncM 32 false sat true M = ((4294967296 - M) % 4294967296, 0) := by unfold truncM; rw [if_pos (show M ≤ bnd 32 false true from hin), if_pos rfl]
      rw [hv]
      have hrd := ro_fin hro (by omega)
      have h0 : M = 0 := by omega
      have hz := conv_k hrd (by simp only [sgn_t]; omega) (by simp only [sgn_t]; omega)
      rw [h0] at hz
      rw [h0, show (4294967296 - 0) % 4294967296 = 0 by decide]
      rw [h0] at hro
      exact RT_64_32_false_C2 a v tv sat 0 (by decide) hz HVA HT t0 (by rw [show FloatKind.f64.format.order tv 0 = _ from (order_k hro kc_0 (by have := infb_big; omega))]; exact not_lt (by simp only [sgn_t, sgn_f]; omega)) (((order_k hro kc_32 (by have := infb_big; omega))).trans (congrArg some (cmp_lt (by simp only [sgn_t, sgn_f]; omega)))) (((order_k hro kc_63 (by have := infb_big; omega))).trans (congrArg some (cmp_lt (by simp only [sgn_t, sgn_f]; omega)))) w
    · cases sat with
      | false =>
        rw [show truncM 32 false false true M = (0, 42) by unfold truncM; rw [if_neg (show ¬ M ≤ bnd 32 false true from hin), if_neg (by decide)]]
        exact RT_64_32_false_A0 a v tv HVA HT t0 (((order_k hro kc_0 (by have := infb_big; omega))).trans (congrArg some (cmp_lt (by simp only [sgn_t, sgn_f]; omega)))) w
      | true =>
        rw [show truncM 32 false true true M = (0, 0) by unfold truncM; rw [if_neg (show ¬ M ≤ bnd 32 false true from hin), if_pos rfl]; decide]
        exact RT_64_32_false_A1 a v tv HVA HT t0 (((order_k hro kc_0 (by have := infb_big; omega))).trans (congrArg some (cmp_lt (by simp only [sgn_t, sgn_f]; omega)))) w
  | false =>
    by_cases hin : M ≤ 4294967295
    · have hv : truncM 32 false sat false M = (M, 0) := by unfold truncM; rw [if_pos (show M ≤ bnd 32 false false from hin), if_neg (by decide), Nat.mod_eq_of_lt (show M < 2 ^ 32 from Nat.lt_of_le_of_lt hin (by decide))]
      rw [hv]
      have hrd := ro_fin hro (by omega)
      have hz := conv_k hrd (by simp only [sgn_f]; omega) (by simp only [sgn_f]; omega)
      exact RT_64_32_false_C2 a v tv sat M (by omega) hz HVA HT t0 (by rw [show FloatKind.f64.format.order tv 0 = _ from (order_k hro kc_0 (by have := infb_big; omega))]; exact not_lt (by simp only [sgn_t, sgn_f]; omega)) (((order_k hro kc_32 (by have := infb_big; omega))).trans (congrArg some (cmp_lt (by simp only [sgn_t, sgn_f]; omega)))) (((order_k hro kc_63 (by have := infb_big; omega))).trans (congrArg some (cmp_lt (by simp only [sgn_t, sgn_f]; omega)))) w
    · cases sat with
      | false =>
        rw [show truncM 32 false false false M = (0, 42) by unfold truncM; rw [if_neg (show ¬ M ≤ bnd 32 false false from hin), if_neg (by decide)]]
        exact RT_64_32_false_B0 a v tv _ (ge_or (x := sgn false M) (y := sgn false 4294967296) (by simp only [sgn_f]; omega)) HVA HT t0 (by rw [show FloatKind.f64.format.order tv 0 = _ from (order_k hro kc_0 (by have := infb_big; omega))]; exact not_lt (by simp only [sgn_t, sgn_f]; omega)) (order_k hro kc_32 (by have := infb_big; omega)) w
      | true =>
        rw [show truncM 32 false true false M = (4294967295, 0) by unfold truncM; rw [if_neg (show ¬ M ≤ bnd 32 false false from hin), if_pos rfl]; decide]
        exact RT_64_32_false_B1 a v tv _ (ge_or (x := sgn false M) (y := sgn false 4294967296) (by simp only [sgn_f]; omega)) HVA HT t0 (by rw [show FloatKind.f64.format.order tv 0 = _ from (order_k hro kc_0 (by have := infb_big; omega))]; exact not_lt (by simp only [sgn_t, sgn_f]; omega)) (order_k hro kc_32 (by have := infb_big; omega)) w

theorem RP_64_64_true (a v tv M : Nat) (sat neg : Bool) (hro : Ro neg M tv)
    (HVA : ∀ W, Hid (Calls Tryz.prog 251 #[.int .i64 64, .int .u64 (a : Int)] W fun e w' => e = .returned (.float .f64 v) ∧ Below W.heap.size W w'))
    (HT : ∀ W, Hid (Calls Tryz.prog 221 #[.float .f64 v] W fun e w' => e = .returned (.float .f64 tv) ∧ W = w'))
    (t0 : (FloatKind.f64.format.order v v != some .eq) = false) (w : World) :
    Say 211 #[.int .i64 64, .int .i64 64, .bool true, .bool sat, .int .u64 (a : Int)] w (.tuple #[.int .u64 ((truncM 64 true sat neg M).1 : Int), .int .i64 (truncM 64 true sat neg M).2]) := by
  cases neg with
  | true =>
    by_cases hin : M ≤ 9223372036854775808
    · have hv : truncM 64 true sat true M = ((18446744073709551616 - M) % 18446744073709551616, 0) := by unfold truncM; rw [if_pos (show M ≤ bnd 64 true true from hin), if_pos rfl]
      rw [hv]
      have hrd := ro_fin hro (by omega)
      by_cases h0 : M = 0
      · 
        have hz := conv_k hrd (by simp only [sgn_t]; omega) (by simp only [sgn_t]; omega)
        rw [h0] at hz
        rw [h0, show (18446744073709551616 - 0) % 18446744073709551616 = 0 by decide]
        rw [h0] at hro
        exact RT_64_64_true_C2 a v tv sat 0 (by decide) hz HVA HT t0 (by rw [show FloatKind.f64.format.order tv 14114281232179134464 = _ from (order_k hro kc_n63 (by have := infb_big; omega))]; exact not_lt (by simp only [sgn_t, sgn_f]; omega)) (((order_k hro kc_63 (by have := infb_big; omega))).trans (congrArg some (cmp_lt (by simp only [sgn_t, sgn_f]; omega)))) (by rw [show FloatKind.f64.format.order tv 0 = _ from (order_k hro kc_0 (by have := infb_big; omega))]; exact not_lt (by simp only [sgn_t, sgn_f]; omega)) w
      · have hz := conv_k hrd (by simp only [sgn_t]; omega) (by simp only [sgn_t]; omega)
        have hq := cutneg_64 M hin
        have hwr := wrap_neg M (by omega)
        have HC : ∀ W, Hid (Calls Tryz.prog 81 #[.int .i64 64, .int .u64 (((18446744073709551616 - M) % 18446744073709551616 : Nat) : Int)] W fun e w' => e = .returned (.int .u64 (((18446744073709551616 - M) % 18446744073709551616 : Nat) : Int)) ∧ W = w') := fun W => hid (by
          have := Cut_any 64 (.inr rfl) ((18446744073709551616 - M) % 18446744073709551616) (Nat.mod_lt _ (by decide)) W
          rw [show (2 : Nat) ^ 64 = 18446744073709551616 by decide, hq] at this
          exact this)
        exact RT_64_64_true_C1 a v tv sat _ _ _ hwr hz HVA HT t0 (by rw [show FloatKind.f64.format.order tv 14114281232179134464 = _ from (order_k hro kc_n63 (by have := infb_big; omega))]; exact not_lt (by simp only [sgn_t, sgn_f]; omega)) (((order_k hro kc_63 (by have := infb_big; omega))).trans (congrArg some (cmp_lt (by simp only [sgn_t, sgn_f]; omega)))) (((order_k hro kc_0 (by have := infb_big; omega))).trans (congrArg some (cmp_lt (by simp only [sgn_t, sgn_f]; omega)))) HC w
    · cases sat with
      | false =>
        rw [show truncM 64 true false true M = (0, 42) by unfold truncM; rw [if_neg (show ¬ M ≤ bnd 64 true true from hin), if_neg (by decide)]]
        exact RT_64_64_true_A0 a v tv HVA HT t0 (((order_k hro kc_n63 (by have := infb_big; omega))).trans (congrArg some (cmp_lt (by simp only [sgn_t, sgn_f]; omega)))) w
      | true =>
        rw [show truncM 64 true true true M = (9223372036854775808, 0) by unfold truncM; rw [if_neg (show ¬ M ≤ bnd 64 true true from hin), if_pos rfl]; decide]
        exact RT_64_64_true_A1 a v tv HVA HT t0 (((order_k hro kc_n63 (by have := infb_big; omega))).trans (congrArg some (cmp_lt (by simp only [sgn_t, sgn_f]; omega)))) w
  | false =>
    by_cases hin : M ≤ 9223372036854775807
    · have hv : truncM 64 true sat false M = (M, 0) := by unfold truncM; rw [if_pos (show M ≤ bnd 64 true false from hin), if_neg (by decide), Nat.mod_eq_of_lt (show M < 2 ^ 64 from Nat.lt_of_le_of_lt hin (by decide))]
      rw [hv]
      have hrd := ro_fin hro (by omega)
      have hz := conv_k hrd (by simp only [sgn_f]; omega) (by simp only [sgn_f]; omega)
      exact RT_64_64_true_C2 a v tv sat M (by omega) hz HVA HT t0 (by rw [show FloatKind.f64.format.order tv 14114281232179134464 = _ from (order_k hro kc_n63 (by have := infb_big; omega))]; exact not_lt (by simp only [sgn_t, sgn_f]; omega)) (((order_k hro kc_63 (by have := infb_big; omega))).trans (congrArg some (cmp_lt (by simp only [sgn_t, sgn_f]; omega)))) (by rw [show FloatKind.f64.format.order tv 0 = _ from (order_k hro kc_0 (by have := infb_big; omega))]; exact not_lt (by simp only [sgn_t, sgn_f]; omega)) w
    · cases sat with
      | false =>
        rw [show truncM 64 true false false M = (0, 42) by unfold truncM; rw [if_neg (show ¬ M ≤ bnd 64 true false from hin), if_neg (by decide)]]
        exact RT_64_64_true_B0 a v tv _ (ge_or (x := sgn false M) (y := sgn false 9223372036854775808) (by simp only [sgn_f]; omega)) HVA HT t0 (by rw [show FloatKind.f64.format.order tv 14114281232179134464 = _ from (order_k hro kc_n63 (by have := infb_big; omega))]; exact not_lt (by simp only [sgn_t, sgn_f]; omega)) (order_k hro kc_63 (by have := infb_big; omega)) w
      | true =>
        rw [show truncM 64 true true false M = (9223372036854775807, 0) by unfold truncM; rw [if_neg (show ¬ M ≤ bnd 64 true false from hin), if_pos rfl]; decide]
        exact RT_64_64_true_B1 a v tv _ (ge_or (x := sgn false M) (y := sgn false 9223372036854775808) (by simp only [sgn_f]; omega)) HVA HT t0 (by rw [show FloatKind.f64.format.order tv 14114281232179134464 = _ from (order_k hro kc_n63 (by have := infb_big; omega))]; exact not_lt (by simp only [sgn_t, sgn_f]; omega)) (order_k hro kc_63 (by have := infb_big; omega)) w

theorem RP_64_64_false (a v tv M : Nat) (sat neg : Bool) (hro : Ro neg M tv)
    (HVA : ∀ W, Hid (Calls Tryz.prog 251 #[.int .i64 64, .int .u64 (a : Int)] W fun e w' => e = .returned (.float .f64 v) ∧ Below W.heap.size W w'))
    (HT : ∀ W, Hid (Calls Tryz.prog 221 #[.float .f64 v] W fun e w' => e = .returned (.float .f64 tv) ∧ W = w'))
    (t0 : (FloatKind.f64.format.order v v != some .eq) = false) (w : World) :
    Say 211 #[.int .i64 64, .int .i64 64, .bool false, .bool sat, .int .u64 (a : Int)] w (.tuple #[.int .u64 ((truncM 64 false sat neg M).1 : Int), .int .i64 (truncM 64 false sat neg M).2]) := by
  cases neg with
  | true =>
    by_cases hin : M ≤ 0
    · have hv : truncM 64 false sat true M = ((18446744073709551616 - M) % 18446744073709551616, 0) := by unfold truncM; rw [if_pos (show M ≤ bnd 64 false true from hin), if_pos rfl]
      rw [hv]
      have hrd := ro_fin hro (by omega)
      have h0 : M = 0 := by omega
      have hz := conv_k hrd (by simp only [sgn_t]; omega) (by simp only [sgn_t]; omega)
      rw [h0] at hz
      rw [h0, show (18446744073709551616 - 0) % 18446744073709551616 = 0 by decide]
      rw [h0] at hro
      exact RT_64_64_false_C2 a v tv sat 0 (by decide) hz HVA HT t0 (by rw [show FloatKind.f64.format.order tv 0 = _ from (order_k hro kc_0 (by have := infb_big; omega))]; exact not_lt (by simp only [sgn_t, sgn_f]; omega)) (((order_k hro kc_64 (by have := infb_big; omega))).trans (congrArg some (cmp_lt (by simp only [sgn_t, sgn_f]; omega)))) (((order_k hro kc_63 (by have := infb_big; omega))).trans (congrArg some (cmp_lt (by simp only [sgn_t, sgn_f]; omega)))) w
    · cases sat with
      | false =>
        rw [show truncM 64 false false true M = (0, 42) by unfold truncM; rw [if_neg (show ¬ M ≤ bnd 64 false true from hin), if_neg (by decide)]]
        exact RT_64_64_false_A0 a v tv HVA HT t0 (((order_k hro kc_0 (by have := infb_big; omega))).trans (congrArg some (cmp_lt (by simp only [sgn_t, sgn_f]; omega)))) w
      | true =>
        rw [show truncM 64 false true true M = (0, 0) by unfold truncM; rw [if_neg (show ¬ M ≤ bnd 64 false true from hin), if_pos rfl]; decide]
        exact RT_64_64_false_A1 a v tv HVA HT t0 (((order_k hro kc_0 (by have := infb_big; omega))).trans (congrArg some (cmp_lt (by simp only [sgn_t, sgn_f]; omega)))) w
  | false =>
    by_cases hin : M ≤ 18446744073709551615
    · have hv : truncM 64 false sat false M = (M, 0) := by unfold truncM; rw [if_pos (show M ≤ bnd 64 false false from hin), if_neg (by decide), Nat.mod_eq_of_lt (show M < 2 ^ 64 from Nat.lt_of_le_of_lt hin (by decide))]
      rw [hv]
      have hrd := ro_fin hro (by omega)
      by_cases hb : M < 9223372036854775808
      · have hz := conv_k hrd (by simp only [sgn_f]; omega) (by simp only [sgn_f]; omega)
        exact RT_64_64_false_C2 a v tv sat M (by omega) hz HVA HT t0 (by rw [show FloatKind.f64.format.order tv 0 = _ from (order_k hro kc_0 (by have := infb_big; omega))]; exact not_lt (by simp only [sgn_t, sgn_f]; omega)) (((order_k hro kc_64 (by have := infb_big; omega))).trans (congrArg some (cmp_lt (by simp only [sgn_t, sgn_f]; omega)))) (((order_k hro kc_63 (by have := infb_big; omega))).trans (congrArg some (cmp_lt (by simp only [sgn_t, sgn_f]; omega)))) w
      · obtain ⟨r, h1, h2⟩ := sub_k hrd (by omega) (by omega)
        exact RT_64_64_false_C3 a v tv sat _ (ge_or (x := sgn false M) (y := sgn false 9223372036854775808) (by simp only [sgn_f]; omega)) M r _ h1 h2 (wrap_back63 M (by omega) (by omega)) HVA HT t0 (by rw [show FloatKind.f64.format.order tv 0 = _ from (order_k hro kc_0 (by have := infb_big; omega))]; exact not_lt (by simp only [sgn_t, sgn_f]; omega)) (((order_k hro kc_64 (by have := infb_big; omega))).trans (congrArg some (cmp_lt (by simp only [sgn_t, sgn_f]; omega)))) (order_k hro kc_63 (by have := infb_big; omega)) w
    · cases sat with
      | false =>
        rw [show truncM 64 false false false M = (0, 42) by unfold truncM; rw [if_neg (show ¬ M ≤ bnd 64 false false from hin), if_neg (by decide)]]
        exact RT_64_64_false_B0 a v tv _ (ge_or (x := sgn false M) (y := sgn false 18446744073709551616) (by simp only [sgn_f]; omega)) HVA HT t0 (by rw [show FloatKind.f64.format.order tv 0 = _ from (order_k hro kc_0 (by have := infb_big; omega))]; exact not_lt (by simp only [sgn_t, sgn_f]; omega)) (order_k hro kc_64 (by have := infb_big; omega)) w
      | true =>
        rw [show truncM 64 false true false M = (18446744073709551615, 0) by unfold truncM; rw [if_neg (show ¬ M ≤ bnd 64 false false from hin), if_pos rfl]; decide]
        exact RT_64_64_false_B1 a v tv _ (ge_or (x := sgn false M) (y := sgn false 18446744073709551616) (by simp only [sgn_f]; omega)) HVA HT t0 (by rw [show FloatKind.f64.format.order tv 0 = _ from (order_k hro kc_0 (by have := infb_big; omega))]; exact not_lt (by simp only [sgn_t, sgn_f]; omega)) (order_k hro kc_64 (by have := infb_big; omega)) w

theorem RTrunc_32_32 (s sat : Bool) (a : Nat) (ha : a < 18446744073709551616) (w : World) :
    Say 211 #[.int .i64 32, .int .i64 32, .bool s, .bool sat, .int .u64 a] w (.tuple #[.int .u64 ((truncW 2147483648 2139095040 23 (-149) 32 s sat (a % 4294967296)).1 : Int), .int .i64 (truncW 2147483648 2139095040 23 (-149) 32 s sat (a % 4294967296)).2]) := by
  have HV : ∀ W, Hid (Calls Tryz.prog 251 #[.int .i64 32, .int .u64 (a : Int)] W (VPost 2147483648 2139095040 (a % 4294967296) W)) := fun W => hid (value27_32 a W)
  have hc : a % 4294967296 < 2 * 2147483648 := Nat.mod_lt _ (by decide)
  clear ha
  generalize a % 4294967296 = c at *
  by_cases hn : 2139095040 < c % 2147483648
  · rw [show truncW 2147483648 2139095040 23 (-149) 32 s sat c = (0, if sat then 0 else 43) by unfold truncW; rw [if_pos hn]]
    exact RT_32_nan a 32 (by decide) s sat _ HV (hid fun v hv => (val_ne hc hv).trans (decide_eq_true hn)) w
  · rw [show truncW 2147483648 2139095040 23 (-149) 32 s sat c = truncM 32 s sat (decide (2147483648 ≤ c)) (mag (wm 2147483648 2139095040 23 c) (we 2147483648 2139095040 23 (-149) c)) by unfold truncW; rw [if_neg hn]]
    have hle : c % 2147483648 ≤ 2139095040 := by omega
    have hvr := vS_read hc hle
    have HVA : ∀ W, Hid (Calls Tryz.prog 251 #[.int .i64 32, .int .u64 (a : Int)] W fun e w' => e = .returned (.float .f64 (vS c)) ∧ Below W.heap.size W w') := fun W => hid ((HV W).out.mono fun e w' ⟨v, h1, h2, h3⟩ => ⟨by
      rcases h2 with ⟨h, _⟩ | ⟨_, _, h5⟩
      · exact absurd h hn
      · rcases h5 with ⟨_, _, h6⟩ | ⟨h6, _, _⟩
        · rw [h1, h6]
        · exact absurd h6 (by decide), h3⟩)
    have t0 : (FloatKind.f64.format.order (vS c) (vS c) != some .eq) = false := (val_ne hc (.inr ⟨hle, hvr.2.2, .inl ⟨rfl, rfl, rfl⟩⟩)).trans (decide_eq_false hn)
    have HT := fun W => hid (trunc28_num (vS c) hvr.2.2 W)
    have hro : Ro (decide (2147483648 ≤ c)) (mag (wm 2147483648 2139095040 23 c) (we 2147483648 2139095040 23 (-149) c)) (Ieee.double.write ((Ieee.double.read (vS c)).integral .zero)) := by
      unfold wm we
      by_cases hi : c % 2147483648 = 2139095040
      · rw [if_pos hi, if_pos hi]
        refine .inr ⟨?_, mag_inf⟩
        rcases hvr.1 with ⟨h1, _, _⟩ | ⟨_, h2, _⟩
        · omega
        · rw [h2]
          show Ieee.double.read (Ieee.double.write (.infinity _)) = _
          cases decide (2147483648 ≤ c) <;> decide +kernel
      · rw [if_neg hi, if_neg hi]
        exact .inl (tv_32 hc (by omega))
    generalize mag (wm 2147483648 2139095040 23 c) (we 2147483648 2139095040 23 (-149) c) = M at *
    generalize Ieee.double.write ((Ieee.double.read (vS c)).integral .zero) = tv at *
    cases s
    · exact RP_32_32_false a (vS c) tv M sat _ hro HVA HT t0 w
    · exact RP_32_32_true a (vS c) tv M sat _ hro HVA HT t0 w

theorem RTrunc_32_64 (s sat : Bool) (a : Nat) (ha : a < 18446744073709551616) (w : World) :
    Say 211 #[.int .i64 32, .int .i64 64, .bool s, .bool sat, .int .u64 a] w (.tuple #[.int .u64 ((truncW 2147483648 2139095040 23 (-149) 64 s sat (a % 4294967296)).1 : Int), .int .i64 (truncW 2147483648 2139095040 23 (-149) 64 s sat (a % 4294967296)).2]) := by
  have HV : ∀ W, Hid (Calls Tryz.prog 251 #[.int .i64 32, .int .u64 (a : Int)] W (VPost 2147483648 2139095040 (a % 4294967296) W)) := fun W => hid (value27_32 a W)
  have hc : a % 4294967296 < 2 * 2147483648 := Nat.mod_lt _ (by decide)
  clear ha
  generalize a % 4294967296 = c at *
  by_cases hn : 2139095040 < c % 2147483648
  · rw [show truncW 2147483648 2139095040 23 (-149) 64 s sat c = (0, if sat then 0 else 43) by unfold truncW; rw [if_pos hn]]
    exact RT_32_nan a 64 (by decide) s sat _ HV (hid fun v hv => (val_ne hc hv).trans (decide_eq_true hn)) w
  · rw [show truncW 2147483648 2139095040 23 (-149) 64 s sat c = truncM 64 s sat (decide (2147483648 ≤ c)) (mag (wm 2147483648 2139095040 23 c) (we 2147483648 2139095040 23 (-149) c)) by unfold truncW; rw [if_neg hn]]
    have hle : c % 2147483648 ≤ 2139095040 := by omega
    have hvr := vS_read hc hle
    have HVA : ∀ W, Hid (Calls Tryz.prog 251 #[.int .i64 32, .int .u64 (a : Int)] W fun e w' => e = .returned (.float .f64 (vS c)) ∧ Below W.heap.size W w') := fun W => hid ((HV W).out.mono fun e w' ⟨v, h1, h2, h3⟩ => ⟨by
      rcases h2 with ⟨h, _⟩ | ⟨_, _, h5⟩
      · exact absurd h hn
      · rcases h5 with ⟨_, _, h6⟩ | ⟨h6, _, _⟩
        · rw [h1, h6]
        · exact absurd h6 (by decide), h3⟩)
    have t0 : (FloatKind.f64.format.order (vS c) (vS c) != some .eq) = false := (val_ne hc (.inr ⟨hle, hvr.2.2, .inl ⟨rfl, rfl, rfl⟩⟩)).trans (decide_eq_false hn)
    have HT := fun W => hid (trunc28_num (vS c) hvr.2.2 W)
    have hro : Ro (decide (2147483648 ≤ c)) (mag (wm 2147483648 2139095040 23 c) (we 2147483648 2139095040 23 (-149) c)) (Ieee.double.write ((Ieee.double.read (vS c)).integral .zero)) := by
      unfold wm we
      by_cases hi : c % 2147483648 = 2139095040
      · rw [if_pos hi, if_pos hi]
        refine .inr ⟨?_, mag_inf⟩
        rcases hvr.1 with ⟨h1, _, _⟩ | ⟨_, h2, _⟩
        · omega
        · rw [h2]
          show Ieee.double.read (Ieee.double.write (.infinity _)) = _
          cases decide (2147483648 ≤ c) <;> decide +kernel
      · rw [if_neg hi, if_neg hi]
        exact .inl (tv_32 hc (by omega))
    generalize mag (wm 2147483648 2139095040 23 c) (we 2147483648 2139095040 23 (-149) c) = M at *
    generalize Ieee.double.write ((Ieee.double.read (vS c)).integral .zero) = tv at *
    cases s
    · exact RP_32_64_false a (vS c) tv M sat _ hro HVA HT t0 w
    · exact RP_32_64_true a (vS c) tv M sat _ hro HVA HT t0 w

theorem RTrunc_64_32 (s sat : Bool) (a : Nat) (ha : a < 18446744073709551616) (w : World) :
    Say 211 #[.int .i64 64, .int .i64 32, .bool s, .bool sat, .int .u64 a] w (.tuple #[.int .u64 ((truncW 9223372036854775808 9218868437227405312 52 (-1074) 32 s sat (a % 18446744073709551616)).1 : Int), .int .i64 (truncW 9223372036854775808 9218868437227405312 52 (-1074) 32 s sat (a % 18446744073709551616)).2]) := by
  have HV : ∀ W, Hid (Calls Tryz.prog 251 #[.int .i64 64, .int .u64 (a : Int)] W (VPost 9223372036854775808 9218868437227405312 (a % 18446744073709551616) W)) := fun W => hid (by rw [Nat.mod_eq_of_lt ha]; exact value27_64 a ha W)
  have hc : a % 18446744073709551616 < 2 * 9223372036854775808 := Nat.mod_lt _ (by decide)
  clear ha
  generalize a % 18446744073709551616 = c at *
  by_cases hn : 9218868437227405312 < c % 9223372036854775808
  · rw [show truncW 9223372036854775808 9218868437227405312 52 (-1074) 32 s sat c = (0, if sat then 0 else 43) by unfold truncW; rw [if_pos hn]]
    exact RT_64_nan a 32 (by decide) s sat _ HV (hid fun v hv => (val_ne hc hv).trans (decide_eq_true hn)) w
  · rw [show truncW 9223372036854775808 9218868437227405312 52 (-1074) 32 s sat c = truncM 32 s sat (decide (9223372036854775808 ≤ c)) (mag (wm 9223372036854775808 9218868437227405312 52 c) (we 9223372036854775808 9218868437227405312 52 (-1074) c)) by unfold truncW; rw [if_neg hn]]
    have hle : c % 9223372036854775808 ≤ 9218868437227405312 := by omega
    have HVA : ∀ W, Hid (Calls Tryz.prog 251 #[.int .i64 64, .int .u64 (a : Int)] W fun e w' => e = .returned (.float .f64 c) ∧ Below W.heap.size W w') := fun W => hid ((HV W).out.mono fun e w' ⟨v, h1, h2, h3⟩ => ⟨by
      rcases h2 with ⟨h, _⟩ | ⟨_, _, h5⟩
      · exact absurd h hn
      · rcases h5 with ⟨h6, _, _⟩ | ⟨_, _, h6⟩
        · exact absurd h6 (by decide)
        · rw [h1, h6], h3⟩)
    have t0 : (FloatKind.f64.format.order c c != some .eq) = false := (val_ne hc (.inr ⟨hle, hle, .inr ⟨rfl, rfl, rfl⟩⟩)).trans (decide_eq_false hn)
    have HT := fun W => hid (trunc28_num c hle W)
    have hro : Ro (decide (9223372036854775808 ≤ c)) (mag (wm 9223372036854775808 9218868437227405312 52 c) (we 9223372036854775808 9218868437227405312 52 (-1074) c)) (Ieee.double.write ((Ieee.double.read c).integral .zero)) := by
      unfold wm we
      by_cases hi : c % 9223372036854775808 = 9218868437227405312
      · rw [if_pos hi, if_pos hi]
        refine .inr ⟨?_, mag_inf⟩
        rw [read_inf (f := Ieee.double) fmt_double.sb hc fmt_double.bi hi]
        show Ieee.double.read (Ieee.double.write (.infinity _)) = _
        cases decide (9223372036854775808 ≤ c) <;> decide +kernel
      · rw [if_neg hi, if_neg hi]
        exact .inl (tv_64 hc (by omega))
    generalize mag (wm 9223372036854775808 9218868437227405312 52 c) (we 9223372036854775808 9218868437227405312 52 (-1074) c) = M at *
    generalize Ieee.double.write ((Ieee.double.read c).integral .zero) = tv at *
    cases s
    · exact RP_64_32_false a c tv M sat _ hro HVA HT t0 w
    · exact RP_64_32_true a c tv M sat _ hro HVA HT t0 w

theorem RTrunc_64_64 (s sat : Bool) (a : Nat) (ha : a < 18446744073709551616) (w : World) :
    Say 211 #[.int .i64 64, .int .i64 64, .bool s, .bool sat, .int .u64 a] w (.tuple #[.int .u64 ((truncW 9223372036854775808 9218868437227405312 52 (-1074) 64 s sat (a % 18446744073709551616)).1 : Int), .int .i64 (truncW 9223372036854775808 9218868437227405312 52 (-1074) 64 s sat (a % 18446744073709551616)).2]) := by
  have HV : ∀ W, Hid (Calls Tryz.prog 251 #[.int .i64 64, .int .u64 (a : Int)] W (VPost 9223372036854775808 9218868437227405312 (a % 18446744073709551616) W)) := fun W => hid (by rw [Nat.mod_eq_of_lt ha]; exact value27_64 a ha W)
  have hc : a % 18446744073709551616 < 2 * 9223372036854775808 := Nat.mod_lt _ (by decide)
  clear ha
  generalize a % 18446744073709551616 = c at *
  by_cases hn : 9218868437227405312 < c % 9223372036854775808
  · rw [show truncW 9223372036854775808 9218868437227405312 52 (-1074) 64 s sat c = (0, if sat then 0 else 43) by unfold truncW; rw [if_pos hn]]
    exact RT_64_nan a 64 (by decide) s sat _ HV (hid fun v hv => (val_ne hc hv).trans (decide_eq_true hn)) w
  · rw [show truncW 9223372036854775808 9218868437227405312 52 (-1074) 64 s sat c = truncM 64 s sat (decide (9223372036854775808 ≤ c)) (mag (wm 9223372036854775808 9218868437227405312 52 c) (we 9223372036854775808 9218868437227405312 52 (-1074) c)) by unfold truncW; rw [if_neg hn]]
    have hle : c % 9223372036854775808 ≤ 9218868437227405312 := by omega
    have HVA : ∀ W, Hid (Calls Tryz.prog 251 #[.int .i64 64, .int .u64 (a : Int)] W fun e w' => e = .returned (.float .f64 c) ∧ Below W.heap.size W w') := fun W => hid ((HV W).out.mono fun e w' ⟨v, h1, h2, h3⟩ => ⟨by
      rcases h2 with ⟨h, _⟩ | ⟨_, _, h5⟩
      · exact absurd h hn
      · rcases h5 with ⟨h6, _, _⟩ | ⟨_, _, h6⟩
        · exact absurd h6 (by decide)
        · rw [h1, h6], h3⟩)
    have t0 : (FloatKind.f64.format.order c c != some .eq) = false := (val_ne hc (.inr ⟨hle, hle, .inr ⟨rfl, rfl, rfl⟩⟩)).trans (decide_eq_false hn)
    have HT := fun W => hid (trunc28_num c hle W)
    have hro : Ro (decide (9223372036854775808 ≤ c)) (mag (wm 9223372036854775808 9218868437227405312 52 c) (we 9223372036854775808 9218868437227405312 52 (-1074) c)) (Ieee.double.write ((Ieee.double.read c).integral .zero)) := by
      unfold wm we
      by_cases hi : c % 9223372036854775808 = 9218868437227405312
      · rw [if_pos hi, if_pos hi]
        refine .inr ⟨?_, mag_inf⟩
        rw [read_inf (f := Ieee.double) fmt_double.sb hc fmt_double.bi hi]
        show Ieee.double.read (Ieee.double.write (.infinity _)) = _
        cases decide (9223372036854775808 ≤ c) <;> decide +kernel
      · rw [if_neg hi, if_neg hi]
        exact .inl (tv_64 hc (by omega))
    generalize mag (wm 9223372036854775808 9218868437227405312 52 c) (we 9223372036854775808 9218868437227405312 52 (-1074) c) = M at *
    generalize Ieee.double.write ((Ieee.double.read c).integral .zero) = tv at *
    cases s
    · exact RP_64_64_false a c tv M sat _ hro HVA HT t0 w
    · exact RP_64_64_true a c tv M sat _ hro HVA HT t0 w

end Go.Proofs.YtlhakbkdlgejpaaGreatDoor.Fl
