/-
  The contract of the document's own held. Condition: the bits are 8, 16, 32 or 64, the numbers are cut.
-/
import Derived.Test.YticcmbeikdemmaaRefHeld
namespace Go.Proofs.Yticcmbeikdemmaa
open Go.RowKit
set_option linter.unusedVariables false

theorem clampM_eq {n : Nat} (z : Int) : clampM (((2 ^ (n - 1) : Nat) : Int) - 1) z = clampS n z := by
  unfold clampM clampS
  have e : -(((2 ^ (n - 1) : Nat) : Int) - 1) - 1 = -((2 ^ (n - 1) : Nat) : Int) := by omega
  rw [e]

theorem all_ones {n : Nat} (hn : Okn n) : 18446744073709551615 % 2 ^ n = 2 ^ n - 1 ∧ (2 ^ n - 1) / 2 = 2 ^ (n - 1) - 1 := by
  rcases hn with rfl | rfl | rfl | rfl <;> decide

theorem clampS_range {n : Nat} (hn : Okn n) (z : Int) : -9223372036854775808 ≤ clampS n z ∧ clampS n z < 9223372036854775808 := by
  obtain ⟨h1, h2, h3, h4⟩ := pow_lt64 hn
  unfold clampS
  split
  · omega
  · split <;> omega

/-- What held begins with: all ones, and the greatest number with a sign. -/
theorem ones_cut (n : Nat) (hn : Okn n) (W : World) : Calls Try.prog 24 #[.int .i64 n, .int .u64 18446744073709551615] W fun e w' => e = .returned (.int .u64 ((2 ^ n - 1 : Nat) : Int)) ∧ W = w' := by
  have := Cut_any n hn 18446744073709551615 (by decide) W
  rw [(all_ones hn).1] at this
  exact this

set_option maxHeartbeats 800000 in
theorem held_sat (n : Nat) (hn : Okn n) (op : Nat) (hop : op = 16 ∨ op = 18) (a b : Nat) (ha : a < 2 ^ n) (hb : b < 2 ^ n) (w : World) :
    Calls Try.prog 38 #[.int .i64 n, .int .i64 op, .int .u64 a, .int .u64 b, .int .i64 (sg n a), .int .i64 (sg n b)] w fun e w' => e = .returned (.int .u64 (satR n op a b : Nat)) ∧ w = w' := by
  obtain ⟨h1, h2, h3, h4⟩ := pow_lt64 hn
  have HO := hid (ones_cut n hn)
  have rA := sg_range hn ha
  have rB := sg_range hn hb
  obtain ⟨x, hx⟩ : ∃ x, x = sg n a := ⟨_, rfl⟩
  obtain ⟨y, hy⟩ : ∃ y, y = sg n b := ⟨_, rfl⟩
  obtain ⟨M, hM⟩ : ∃ M : Nat, M = (2 ^ n - 1) / 2 := ⟨_, rfl⟩
  have hM2 := (all_ones hn).2
  rw [← hM] at hM2
  have hMc : (M : Int) = ((2 ^ (n - 1) : Nat) : Int) - 1 := by omega
  obtain ⟨O, hO⟩ : ∃ O : Nat, O = 2 ^ n - 1 := ⟨_, rfl⟩
  rw [← hO] at HO hM
  have hOM : (O : Int) / 2 = (M : Int) := by rw [hM]; simp
  have hM64 : (M : Int) ≤ 9223372036854775807 := by omega
  rw [← hx] at rA
  rw [← hy] at rB
  have hwO := wrap_nat (show M < 18446744073709551616 by omega)
  rcases hop with rfl | rfl
  · have hW := within_more x y M (by omega) hM64 (by omega) (by omega) (by omega) (by omega) w
    rw [hMc, clampM_eq, ← hMc] at hW
    have hr := clampS_range hn (x + y)
    rw [satR, if_pos rfl, ← hx, ← hy]
    obtain ⟨z, hz⟩ : ∃ z, z = clampS n (x + y) := ⟨_, rfl⟩
    rw [← hz] at hW hr ⊢
    have hv := wrap_toN hn z
    obtain ⟨v, hve⟩ : ∃ v : Nat, v = (z % 18446744073709551616).toNat := ⟨_, rfl⟩
    have hvw : IntKind.u64.wrap z = (v : Int) := by rw [IntKind.wrap_u64]; omega
    have hC := Cut_any n hn v (by omega) w
    rw [← hve] at hv
    rw [hv] at hC
    obtain ⟨s, hse⟩ : ∃ s : Nat, s = toN n z := ⟨_, rfl⟩
    rw [← hse] at hC ⊢
    have HC := hid hC
    have HW := hid hW
    clear h1 h2 h3 h4 hn ha hb rA rB hx hy hM hM2 hMc hO hW hr hz hv hve hC hse
    show Calls Try.prog 38 #[.int .i64 n, .int .i64 16, .int .u64 a, .int .u64 b, .int .i64 x, .int .i64 y] w _
    go_enter Try.func38, Try.ntmps38
    go_wp2_with (first
      | (go_at_call 24; ((with_reducible refine (HO.out _).mono ?_); rintro e w' ⟨rfl, rfl⟩))
      | (go_at_call 47; refine HW.out.mono ?_; rintro e w' ⟨rfl, rfl⟩)
      | (go_at_call 24; ((with_reducible refine HC.out.mono ?_); rintro e w' ⟨rfl, rfl⟩)))
    go_ret
    exact ⟨rfl, rfl⟩
  · have hW := within_less x y M (by omega) hM64 (by omega) (by omega) (by omega) (by omega) w
    rw [hMc, clampM_eq, ← hMc] at hW
    have hr := clampS_range hn (x - y)
    rw [satR, if_neg (by decide), if_pos rfl, ← hx, ← hy]
    obtain ⟨z, hz⟩ : ∃ z, z = clampS n (x - y) := ⟨_, rfl⟩
    rw [← hz] at hW hr ⊢
    have hv := wrap_toN hn z
    obtain ⟨v, hve⟩ : ∃ v : Nat, v = (z % 18446744073709551616).toNat := ⟨_, rfl⟩
    have hvw : IntKind.u64.wrap z = (v : Int) := by rw [IntKind.wrap_u64]; omega
    have hC := Cut_any n hn v (by omega) w
    rw [← hve] at hv
    rw [hv] at hC
    obtain ⟨s, hse⟩ : ∃ s : Nat, s = toN n z := ⟨_, rfl⟩
    rw [← hse] at hC ⊢
    have HC := hid hC
    have HW := hid hW
    clear h1 h2 h3 h4 hn ha hb rA rB hx hy hM hM2 hMc hO hW hr hz hv hve hC hse
    show Calls Try.prog 38 #[.int .i64 n, .int .i64 18, .int .u64 a, .int .u64 b, .int .i64 x, .int .i64 y] w _
    go_enter Try.func38, Try.ntmps38
    go_wp2_with (first
      | (go_at_call 24; ((with_reducible refine (HO.out _).mono ?_); rintro e w' ⟨rfl, rfl⟩))
      | (go_at_call 47; refine HW.out.mono ?_; rintro e w' ⟨rfl, rfl⟩)
      | (go_at_call 24; ((with_reducible refine HC.out.mono ?_); rintro e w' ⟨rfl, rfl⟩)))
    go_ret
    exact ⟨rfl, rfl⟩





set_option maxHeartbeats 800000 in
theorem held_17 (n : Nat) (hn : Okn n) (a b : Nat) (ha : a < 2 ^ n) (hb : b < 2 ^ n) (w : World) :
    Calls Try.prog 38 #[.int .i64 n, .int .i64 17, .int .u64 a, .int .u64 b, .int .i64 (sg n a), .int .i64 (sg n b)] w fun e w' => e = .returned (.int .u64 (satR n 17 a b : Nat)) ∧ w = w' := by
  obtain ⟨h1, h2, h3, h4⟩ := pow_lt64 hn
  have HO := hid (ones_cut n hn)
  obtain ⟨x, hx⟩ : ∃ x, x = sg n a := ⟨_, rfl⟩
  obtain ⟨y, hy⟩ : ∃ y, y = sg n b := ⟨_, rfl⟩
  obtain ⟨M, hM⟩ : ∃ M : Nat, M = (2 ^ n - 1) / 2 := ⟨_, rfl⟩
  have hM2 := (all_ones hn).2
  rw [← hM] at hM2
  obtain ⟨O, hO⟩ : ∃ O : Nat, O = 2 ^ n - 1 := ⟨_, rfl⟩
  rw [← hO] at HO hM
  have hOM : (O : Int) / 2 = (M : Int) := by rw [hM]; simp
  have hM64 : (M : Int) ≤ 9223372036854775807 := by omega
  have hwO := wrap_nat (show M < 18446744073709551616 by omega)
  rw [satR, if_neg (by decide), if_neg (by decide), if_pos rfl, ← hO, ← hx, ← hy]
  have hw : IntKind.u64.wrap ((O : Int) - (b : Int)) = ((O - b : Nat) : Int) := by rw [IntKind.wrap_u64]; omega
  obtain ⟨d, hd⟩ : ∃ d : Nat, d = O - b := ⟨_, rfl⟩
  rw [← hd] at hw
  by_cases hc : d < a
  · rw [if_pos (by omega)]
    have hd2 : decide (d < a) = true := decide_eq_true hc
    clear h1 h2 h3 h4 hn ha hb hx hy hM hM2 hO hd
    go_enter Try.func38, Try.ntmps38
    go_wp2_with (go_at_call 24; ((with_reducible refine (HO.out _).mono ?_); rintro e w' ⟨rfl, rfl⟩))
    go_ret
    exact ⟨rfl, rfl⟩
  · rw [if_neg (by omega)]
    have hd2 : decide (d < a) = false := decide_eq_false hc
    have hw2 : IntKind.u64.wrap ((a : Int) + (b : Int)) = ((a + b : Nat) : Int) := by rw [IntKind.wrap_u64]; omega
    clear h1 h2 h3 h4 hn ha hb hx hy hM hM2 hO hd
    go_enter Try.func38, Try.ntmps38
    go_wp2_with (go_at_call 24; ((with_reducible refine (HO.out _).mono ?_); rintro e w' ⟨rfl, rfl⟩))
    go_ret
    exact ⟨rfl, rfl⟩

set_option maxHeartbeats 800000 in
theorem held_19 (n : Nat) (hn : Okn n) (a b : Nat) (ha : a < 2 ^ n) (hb : b < 2 ^ n) (w : World) :
    Calls Try.prog 38 #[.int .i64 n, .int .i64 19, .int .u64 a, .int .u64 b, .int .i64 (sg n a), .int .i64 (sg n b)] w fun e w' => e = .returned (.int .u64 (satR n 19 a b : Nat)) ∧ w = w' := by
  obtain ⟨h1, h2, h3, h4⟩ := pow_lt64 hn
  have HO := hid (ones_cut n hn)
  obtain ⟨x, hx⟩ : ∃ x, x = sg n a := ⟨_, rfl⟩
  obtain ⟨y, hy⟩ : ∃ y, y = sg n b := ⟨_, rfl⟩
  obtain ⟨M, hM⟩ : ∃ M : Nat, M = (2 ^ n - 1) / 2 := ⟨_, rfl⟩
  have hM2 := (all_ones hn).2
  rw [← hM] at hM2
  obtain ⟨O, hO⟩ : ∃ O : Nat, O = 2 ^ n - 1 := ⟨_, rfl⟩
  rw [← hO] at HO hM
  have hOM : (O : Int) / 2 = (M : Int) := by rw [hM]; simp
  have hM64 : (M : Int) ≤ 9223372036854775807 := by omega
  have hwO := wrap_nat (show M < 18446744073709551616 by omega)
  rw [satR, if_neg (by decide), if_neg (by decide), if_neg (by decide), ← hx, ← hy]
  by_cases hc : a < b
  · have hd2 : decide (a < b) = true := decide_eq_true hc
    have e : a - b = 0 := by omega
    rw [e]
    clear h1 h2 h3 h4 hn ha hb hx hy hM hM2 hO e
    go_enter Try.func38, Try.ntmps38
    go_wp2_with (go_at_call 24; ((with_reducible refine (HO.out _).mono ?_); rintro e w' ⟨rfl, rfl⟩))
    go_ret
    exact ⟨rfl, rfl⟩
  · have hd2 : decide (a < b) = false := decide_eq_false hc
    have hw2 : IntKind.u64.wrap ((a : Int) - (b : Int)) = ((a - b : Nat) : Int) := by rw [IntKind.wrap_u64]; omega
    clear h1 h2 h3 h4 hn ha hb hx hy hM hM2 hO
    go_enter Try.func38, Try.ntmps38
    go_wp2_with (go_at_call 24; ((with_reducible refine (HO.out _).mono ?_); rintro e w' ⟨rfl, rfl⟩))
    go_ret
    exact ⟨rfl, rfl⟩

set_option maxHeartbeats 800000 in
theorem held_20 (n : Nat) (hn : Okn n) (a b : Nat) (ha : a < 2 ^ n) (hb : b < 2 ^ n) (w : World) :
    Calls Try.prog 38 #[.int .i64 n, .int .i64 20, .int .u64 a, .int .u64 b, .int .i64 (sg n a), .int .i64 (sg n b)] w fun e w' => e = .returned (.int .u64 (mmR n 20 a b : Nat)) ∧ w = w' := by
  obtain ⟨h1, h2, h3, h4⟩ := pow_lt64 hn
  have HO := hid (ones_cut n hn)
  obtain ⟨x, hx⟩ : ∃ x, x = sg n a := ⟨_, rfl⟩
  obtain ⟨y, hy⟩ : ∃ y, y = sg n b := ⟨_, rfl⟩
  obtain ⟨M, hM⟩ : ∃ M : Nat, M = (2 ^ n - 1) / 2 := ⟨_, rfl⟩
  have hM2 := (all_ones hn).2
  rw [← hM] at hM2
  obtain ⟨O, hO⟩ : ∃ O : Nat, O = 2 ^ n - 1 := ⟨_, rfl⟩
  rw [← hO] at HO hM
  have hOM : (O : Int) / 2 = (M : Int) := by rw [hM]; simp
  have hM64 : (M : Int) ≤ 9223372036854775807 := by omega
  have hwO := wrap_nat (show M < 18446744073709551616 by omega)
  rw [mmR, if_pos rfl, ← hx, ← hy]
  by_cases hc : x < y
  · rw [if_pos hc]
    have hd2 : decide (x < y) = true := decide_eq_true hc
    clear h1 h2 h3 h4 hn ha hb hx hy hM hM2 hO hc
    go_enter Try.func38, Try.ntmps38
    go_wp2_with (go_at_call 24; ((with_reducible refine (HO.out _).mono ?_); rintro e w' ⟨rfl, rfl⟩))
    go_ret
    exact ⟨rfl, rfl⟩
  · rw [if_neg hc]
    have hd2 : decide (x < y) = false := decide_eq_false hc
    clear h1 h2 h3 h4 hn ha hb hx hy hM hM2 hO hc
    go_enter Try.func38, Try.ntmps38
    go_wp2_with (go_at_call 24; ((with_reducible refine (HO.out _).mono ?_); rintro e w' ⟨rfl, rfl⟩))
    go_ret
    exact ⟨rfl, rfl⟩

set_option maxHeartbeats 800000 in
theorem held_22 (n : Nat) (hn : Okn n) (a b : Nat) (ha : a < 2 ^ n) (hb : b < 2 ^ n) (w : World) :
    Calls Try.prog 38 #[.int .i64 n, .int .i64 22, .int .u64 a, .int .u64 b, .int .i64 (sg n a), .int .i64 (sg n b)] w fun e w' => e = .returned (.int .u64 (mmR n 22 a b : Nat)) ∧ w = w' := by
  obtain ⟨h1, h2, h3, h4⟩ := pow_lt64 hn
  have HO := hid (ones_cut n hn)
  obtain ⟨x, hx⟩ : ∃ x, x = sg n a := ⟨_, rfl⟩
  obtain ⟨y, hy⟩ : ∃ y, y = sg n b := ⟨_, rfl⟩
  obtain ⟨M, hM⟩ : ∃ M : Nat, M = (2 ^ n - 1) / 2 := ⟨_, rfl⟩
  have hM2 := (all_ones hn).2
  rw [← hM] at hM2
  obtain ⟨O, hO⟩ : ∃ O : Nat, O = 2 ^ n - 1 := ⟨_, rfl⟩
  rw [← hO] at HO hM
  have hOM : (O : Int) / 2 = (M : Int) := by rw [hM]; simp
  have hM64 : (M : Int) ≤ 9223372036854775807 := by omega
  have hwO := wrap_nat (show M < 18446744073709551616 by omega)
  rw [mmR, if_neg (by decide), if_pos rfl, ← hx, ← hy]
  by_cases hc : x < y
  · rw [if_pos hc]
    have hd2 : decide (x < y) = true := decide_eq_true hc
    clear h1 h2 h3 h4 hn ha hb hx hy hM hM2 hO hc
    go_enter Try.func38, Try.ntmps38
    go_wp2_with (go_at_call 24; ((with_reducible refine (HO.out _).mono ?_); rintro e w' ⟨rfl, rfl⟩))
    go_ret
    exact ⟨rfl, rfl⟩
  · rw [if_neg hc]
    have hd2 : decide (x < y) = false := decide_eq_false hc
    clear h1 h2 h3 h4 hn ha hb hx hy hM hM2 hO hc
    go_enter Try.func38, Try.ntmps38
    go_wp2_with (go_at_call 24; ((with_reducible refine (HO.out _).mono ?_); rintro e w' ⟨rfl, rfl⟩))
    go_ret
    exact ⟨rfl, rfl⟩

set_option maxHeartbeats 800000 in
theorem held_21 (n : Nat) (hn : Okn n) (a b : Nat) (ha : a < 2 ^ n) (hb : b < 2 ^ n) (w : World) :
    Calls Try.prog 38 #[.int .i64 n, .int .i64 21, .int .u64 a, .int .u64 b, .int .i64 (sg n a), .int .i64 (sg n b)] w fun e w' => e = .returned (.int .u64 (mmR n 21 a b : Nat)) ∧ w = w' := by
  obtain ⟨h1, h2, h3, h4⟩ := pow_lt64 hn
  have HO := hid (ones_cut n hn)
  obtain ⟨x, hx⟩ : ∃ x, x = sg n a := ⟨_, rfl⟩
  obtain ⟨y, hy⟩ : ∃ y, y = sg n b := ⟨_, rfl⟩
  obtain ⟨M, hM⟩ : ∃ M : Nat, M = (2 ^ n - 1) / 2 := ⟨_, rfl⟩
  have hM2 := (all_ones hn).2
  rw [← hM] at hM2
  obtain ⟨O, hO⟩ : ∃ O : Nat, O = 2 ^ n - 1 := ⟨_, rfl⟩
  rw [← hO] at HO hM
  have hOM : (O : Int) / 2 = (M : Int) := by rw [hM]; simp
  have hM64 : (M : Int) ≤ 9223372036854775807 := by omega
  have hwO := wrap_nat (show M < 18446744073709551616 by omega)
  rw [mmR, if_neg (by decide), if_neg (by decide), if_pos rfl, ← hx, ← hy]
  by_cases hc : a < b
  · rw [if_pos hc]
    have hd2 : decide (a < b) = true := decide_eq_true hc
    clear h1 h2 h3 h4 hn ha hb hx hy hM hM2 hO hc
    go_enter Try.func38, Try.ntmps38
    go_wp2_with (go_at_call 24; ((with_reducible refine (HO.out _).mono ?_); rintro e w' ⟨rfl, rfl⟩))
    go_ret
    exact ⟨rfl, rfl⟩
  · rw [if_neg hc]
    have hd2 : decide (a < b) = false := decide_eq_false hc
    clear h1 h2 h3 h4 hn ha hb hx hy hM hM2 hO hc
    go_enter Try.func38, Try.ntmps38
    go_wp2_with (go_at_call 24; ((with_reducible refine (HO.out _).mono ?_); rintro e w' ⟨rfl, rfl⟩))
    go_ret
    exact ⟨rfl, rfl⟩

set_option maxHeartbeats 800000 in
theorem held_23 (n : Nat) (hn : Okn n) (a b : Nat) (ha : a < 2 ^ n) (hb : b < 2 ^ n) (w : World) :
    Calls Try.prog 38 #[.int .i64 n, .int .i64 23, .int .u64 a, .int .u64 b, .int .i64 (sg n a), .int .i64 (sg n b)] w fun e w' => e = .returned (.int .u64 (mmR n 23 a b : Nat)) ∧ w = w' := by
  obtain ⟨h1, h2, h3, h4⟩ := pow_lt64 hn
  have HO := hid (ones_cut n hn)
  obtain ⟨x, hx⟩ : ∃ x, x = sg n a := ⟨_, rfl⟩
  obtain ⟨y, hy⟩ : ∃ y, y = sg n b := ⟨_, rfl⟩
  obtain ⟨M, hM⟩ : ∃ M : Nat, M = (2 ^ n - 1) / 2 := ⟨_, rfl⟩
  have hM2 := (all_ones hn).2
  rw [← hM] at hM2
  obtain ⟨O, hO⟩ : ∃ O : Nat, O = 2 ^ n - 1 := ⟨_, rfl⟩
  rw [← hO] at HO hM
  have hOM : (O : Int) / 2 = (M : Int) := by rw [hM]; simp
  have hM64 : (M : Int) ≤ 9223372036854775807 := by omega
  have hwO := wrap_nat (show M < 18446744073709551616 by omega)
  rw [mmR, if_neg (by decide), if_neg (by decide), if_neg (by decide), ← hx, ← hy]
  by_cases hc : a < b
  · rw [if_pos hc]
    have hd2 : decide (a < b) = true := decide_eq_true hc
    clear h1 h2 h3 h4 hn ha hb hx hy hM hM2 hO hc
    go_enter Try.func38, Try.ntmps38
    go_wp2_with (go_at_call 24; ((with_reducible refine (HO.out _).mono ?_); rintro e w' ⟨rfl, rfl⟩))
    go_ret
    exact ⟨rfl, rfl⟩
  · rw [if_neg hc]
    have hd2 : decide (a < b) = false := decide_eq_false hc
    clear h1 h2 h3 h4 hn ha hb hx hy hM hM2 hO hc
    go_enter Try.func38, Try.ntmps38
    go_wp2_with (go_at_call 24; ((with_reducible refine (HO.out _).mono ?_); rintro e w' ⟨rfl, rfl⟩))
    go_ret
    exact ⟨rfl, rfl⟩

set_option maxHeartbeats 800000 in
theorem held_24 (n : Nat) (hn : Okn n) (a b : Nat) (ha : a < 2 ^ n) (hb : b < 2 ^ n) (w : World) :
    Calls Try.prog 38 #[.int .i64 n, .int .i64 24, .int .u64 a, .int .u64 b, .int .i64 (sg n a), .int .i64 (sg n b)] w fun e w' => e = .returned (.int .u64 (((a + b + 1) / 2) : Nat)) ∧ w = w' := by
  obtain ⟨h1, h2, h3, h4⟩ := pow_lt64 hn
  have HO := hid (ones_cut n hn)
  obtain ⟨x, hx⟩ : ∃ x, x = sg n a := ⟨_, rfl⟩
  obtain ⟨y, hy⟩ : ∃ y, y = sg n b := ⟨_, rfl⟩
  obtain ⟨M, hM⟩ : ∃ M : Nat, M = (2 ^ n - 1) / 2 := ⟨_, rfl⟩
  have hM2 := (all_ones hn).2
  rw [← hM] at hM2
  obtain ⟨O, hO⟩ : ∃ O : Nat, O = 2 ^ n - 1 := ⟨_, rfl⟩
  rw [← hO] at HO hM
  have hOM : (O : Int) / 2 = (M : Int) := by rw [hM]; simp
  have hM64 : (M : Int) ≤ 9223372036854775807 := by omega
  have hwO := wrap_nat (show M < 18446744073709551616 by omega)
  rw [← hx, ← hy]
  have ha64 : (a : Int) < 18446744073709551616 := by omega
  have hb64 : (b : Int) < 18446744073709551616 := by omega
  have hr := hid (show (a : Int) / 2 + (b : Int) / 2 + ((a : Int) % 2 + (b : Int) % 2 + 1) / 2 = (((a + b + 1) / 2 : Nat) : Int) by omega)
  have hr2 := hid (show (((a + b + 1) / 2 : Nat) : Int) < 18446744073709551616 by omega)
  clear h1 h2 h3 h4 hn ha hb hx hy hM hM2 hO
  go_enter Try.func38, Try.ntmps38
  go_wp2_with (go_at_call 24; ((with_reducible refine (HO.out _).mono ?_); rintro e w' ⟨rfl, rfl⟩))
  go_ret
  refine ⟨ret_int ?_, rfl⟩
  have h1 := hr.out
  have h2 := hr2.out
  first
    | exact h1
    | (simp only [IntKind.wrap_u64]; omega)

theorem frac_parts (p : Int) : ∃ T R : Int, p.tdiv 32768 = T ∧ p.tmod 32768 = R ∧ (R < 0 → p / 32768 = T - 1) ∧ (0 ≤ R → p / 32768 = T) := by
  refine ⟨_, _, rfl, rfl, ?_, ?_⟩
  · intro h
    have e1 := Int.mul_tdiv_add_tmod p 32768
    have e2 : -32768 < p.tmod 32768 := by
      have := Int.lt_tmod_of_pos p (show (0 : Int) < 32768 by decide)
      omega
    generalize p.tdiv 32768 = T at *
    generalize p.tmod 32768 = R at *
    omega
  · intro h
    have e1 := Int.mul_tdiv_add_tmod p 32768
    have e2 : p.tmod 32768 < 32768 := Int.tmod_lt_of_pos p (by decide)
    generalize p.tdiv 32768 = T at *
    generalize p.tmod 32768 = R at *
    omega

set_option maxHeartbeats 1600000 in
theorem held_25 (a b : Nat) (ha : a < 2 ^ 16) (hb : b < 2 ^ 16) (w : World) :
    Calls Try.prog 38 #[.int .i64 16, .int .i64 25, .int .u64 a, .int .u64 b, .int .i64 (sg 16 a), .int .i64 (sg 16 b)] w fun e w' => e = .returned (.int .u64 (toN 16 (clampS 16 ((sg 16 a * sg 16 b + 16384) / 32768)) : Nat)) ∧ w = w' := by
  have hn : Okn 16 := .inr (.inl rfl)
  obtain ⟨O, hO⟩ : ∃ O : Nat, O = 2 ^ 16 - 1 := ⟨_, rfl⟩
  obtain ⟨M, hM⟩ : ∃ M : Nat, M = 32767 := ⟨_, rfl⟩
  have HO : Hid (∀ W : World, Calls Try.prog 24 #[.int .i64 16, .int .u64 18446744073709551615] W fun e w' => e = .returned (.int .u64 (O : Int)) ∧ W = w') := fun W => by
    rw [hO]
    exact ones_cut 16 hn W
  have hOM : (O : Int) / 2 = (M : Int) := by rw [hO, hM]; rfl
  have hwO := wrap_nat (show M < 18446744073709551616 by omega)
  have hrA := sg_range hn ha
  have hrB := sg_range hn hb
  obtain ⟨x, hx⟩ : ∃ x, x = sg 16 a := ⟨_, rfl⟩
  obtain ⟨y, hy⟩ : ∃ y, y = sg 16 b := ⟨_, rfl⟩
  rw [← hx] at hrA
  rw [← hy] at hrB
  rw [← hx, ← hy]
  have hm := mul_range (A := x) (B := y) (by simpa using hrA.1) (by have := hrA.2; simp at this; omega) (by simpa using hrB.1) (by have := hrB.2; simp at this; omega)
  obtain ⟨P, hP⟩ : ∃ P, P = x * y := ⟨_, rfl⟩
  rw [← hP] at hm ⊢
  have hw1 : wrap64 (x * y) = P := by rw [← hP]; unfold wrap64; omega
  obtain ⟨p, hp⟩ : ∃ p, p = P + 16384 := ⟨_, rfl⟩
  have hw2 : wrap64 (P + 16384) = p := by rw [hp]; unfold wrap64; omega
  have hw3 : P + 16384 = p := hp.symm
  rw [← hp]
  obtain ⟨T, R, hT, hR, hd1, hd2⟩ := frac_parts p
  obtain ⟨F, hF⟩ : ∃ F, F = p / 32768 := ⟨_, rfl⟩
  rw [← hF] at hd1 hd2 ⊢
  have hFr : -32768 ≤ F ∧ F ≤ 32768 := by omega
  have hcl : clampS 16 F = if 32767 < F then 32767 else F := by
    unfold clampS
    simp only [Nat.reduceSub, Nat.reducePow]
    split
    · omega
    · split <;> split <;> omega
  rw [hcl]
  obtain ⟨z, hz⟩ : ∃ z, z = if 32767 < F then 32767 else F := ⟨_, rfl⟩
  rw [← hz]
  have hv := wrap_toN hn z
  obtain ⟨v, hve⟩ : ∃ v : Nat, v = (z % 18446744073709551616).toNat := ⟨_, rfl⟩
  have hvw : IntKind.u64.wrap z = (v : Int) := by rw [IntKind.wrap_u64]; omega
  have hC : Calls Try.prog 24 #[.int .i64 16, .int .u64 v] w _ := Cut_any 16 hn v (by omega) w
  rw [← hve] at hv
  rw [hv] at hC
  obtain ⟨s, hse⟩ : ∃ s : Nat, s = toN 16 z := ⟨_, rfl⟩
  rw [← hse] at hC ⊢
  have HC := hid hC
  have HZ : Hid ((32767 < F → z = 32767) ∧ (¬ 32767 < F → z = F)) := ⟨fun h => by rw [hz, if_pos h], fun h => by rw [hz, if_neg h]⟩
  have HD := hid (And.intro hd1 hd2)
  have HV := hid hve
  have HF := hid (And.intro hm (And.intro hp hF))
  clear ha hb hn hO hrA hrB hx hy hcl hv hve hC hse hz hd1 hd2
  obtain ⟨hd1, hd2⟩ := HD.out
  have hMv : (M : Int) = 32767 := by omega
  have hwp : wrap64 p = p := by unfold wrap64; omega
  have hwM : wrap64 (M : Int) = (M : Int) := by unfold wrap64; omega
  have hwF : wrap64 F = F := by unfold wrap64; omega
  clear hm hp hF hP
  by_cases hneg : R < 0
  · have e := hd1 hneg
    have hn1 : decide (R < 0) = true := decide_eq_true hneg
    have hTF : wrap64 (T - 1) = F := by unfold wrap64; omega
    have hwT : wrap64 T = T := by unfold wrap64; omega
    have hTF2 : T - 1 = F := by omega
    by_cases hov : 32767 < F
    · have e3 := HZ.out.1 hov
      have hn2 : decide ((M : Int) < F) = true := by rw [hMv]; exact decide_eq_true hov
      obtain rfl : M = v := by have := HV.out; omega
      clear hd1 hd2 hneg hov e3 hvw hMv hM e hFr HD HZ hTF2 HF HV
      go_enter Try.func38, Try.ntmps38
      go_wp2_with (first
        | (go_at_call 24; ((with_reducible refine (HO.out _).mono ?_); rintro e w' ⟨rfl, rfl⟩))
        | (go_at_call 24; ((with_reducible refine HC.out.mono ?_); rintro e w' ⟨rfl, rfl⟩)))
      go_ret
      exact ⟨rfl, rfl⟩
    · have e3 := HZ.out.2 hov
      have hn2 : decide ((M : Int) < F) = false := by rw [hMv]; exact decide_eq_false hov
      rw [e3] at hvw
      clear hd1 hd2 hneg hov e3 hMv hM e hFr HD HZ hTF2 HF HV
      go_enter Try.func38, Try.ntmps38
      go_wp2_with (first
        | (go_at_call 24; ((with_reducible refine (HO.out _).mono ?_); rintro e w' ⟨rfl, rfl⟩))
        | (go_at_call 24; ((with_reducible refine HC.out.mono ?_); rintro e w' ⟨rfl, rfl⟩)))
      go_ret
      exact ⟨rfl, rfl⟩
  · have e := hd2 (by omega)
    have hn1 : decide (R < 0) = false := decide_eq_false hneg
    obtain rfl : F = T := e
    by_cases hov : 32767 < F
    · have e3 := HZ.out.1 hov
      have hn2 : decide ((M : Int) < F) = true := by rw [hMv]; exact decide_eq_true hov
      obtain rfl : M = v := by have := HV.out; omega
      clear hd1 hd2 hneg hov e3 hvw hMv hM hFr HD HZ HF HV
      go_enter Try.func38, Try.ntmps38
      go_wp2_with (first
        | (go_at_call 24; ((with_reducible refine (HO.out _).mono ?_); rintro e w' ⟨rfl, rfl⟩))
        | (go_at_call 24; ((with_reducible refine HC.out.mono ?_); rintro e w' ⟨rfl, rfl⟩)))
      go_ret
      exact ⟨rfl, rfl⟩
    · have e3 := HZ.out.2 hov
      have hn2 : decide ((M : Int) < F) = false := by rw [hMv]; exact decide_eq_false hov
      rw [e3] at hvw
      clear hd1 hd2 hneg hov e3 hMv hM hFr HD HZ HF HV
      go_enter Try.func38, Try.ntmps38
      go_wp2_with (first
        | (go_at_call 24; ((with_reducible refine (HO.out _).mono ?_); rintro e w' ⟨rfl, rfl⟩))
        | (go_at_call 24; ((with_reducible refine HC.out.mono ?_); rintro e w' ⟨rfl, rfl⟩)))
      go_ret
      exact ⟨rfl, rfl⟩

end Go.Proofs.Yticcmbeikdemmaa
