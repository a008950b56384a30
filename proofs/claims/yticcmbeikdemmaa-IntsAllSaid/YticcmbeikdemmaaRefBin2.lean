/-
  The contract of the document's own Bin, whole. No condition.
-/
import Derived.Test.YticcmbeikdemmaaRefBin
namespace Go.Proofs.Yticcmbeikdemmaa
open Go.RowKit

theorem mul_step (x y i : Nat) : x * (y % 2 ^ (i + 1)) = x * (y % 2 ^ i) + x * 2 ^ i * btN y i := by
  unfold btN
  rw [Nat.pow_succ, Nat.mod_mul, Nat.mul_add, Nat.mul_assoc]

set_option maxRecDepth 100000 in
set_option maxHeartbeats 1600000 in
theorem RBin_3 (n : Nat) (hn : Okn n) (a b : Nat) (ha : a < 18446744073709551616) (hb : b < 18446744073709551616) (w : World) :
    Calls Try.prog 17 #[.int .i64 n, .int .i64 3, .int .u64 a, .int .u64 b] w (DivPost w (binR n 3 (a % 2 ^ n) (b % 2 ^ n))) := by
  obtain ⟨h1, h2, h3, h4⟩ := pow_lt64 hn
  have hn8 := hn.le
  have HK := hid (Right_yes n hn w)
  have HX := hid (Cut_any n hn a ha w)
  have HY := hid (Cut_any n hn b hb w)
  obtain ⟨x, hx⟩ : ∃ x : Nat, x = a % 2 ^ n := ⟨_, rfl⟩
  obtain ⟨y, hy⟩ : ∃ y : Nat, y = b % 2 ^ n := ⟨_, rfl⟩
  have hxl : x < 2 ^ n := by rw [hx]; exact Nat.mod_lt _ (Nat.two_pow_pos n)
  have hyl : y < 2 ^ n := by rw [hy]; exact Nat.mod_lt _ (Nat.two_pow_pos n)
  have HSX := hid (RSigned_cut n hn x hxl w)
  have HSY := hid (RSigned_cut n hn y hyl w)
  rw [← hx] at HX
  rw [← hy] at HY
  rw [← hx, ← hy]
  obtain ⟨k, hk⟩ : ∃ k : Nat, k = y % n := ⟨_, rfl⟩
  have hkn : k < n := by rw [hk]; exact Nat.mod_lt _ (by omega)
  have hkk : (y : Int) % (n : Int) = (k : Int) := by rw [hk]; simp
  have hnw := wrap_nat (show n < 18446744073709551616 by omega)
  have hn0 : 0 < (n : Int) := by omega
  have hk64 : k ≤ 63 := by omega
  clear hx hy ha hb
  have hs : binR n 3 x y = (x * y % 2 ^ n, 0) := by rw [binR, if_neg (by decide), if_neg (by decide), if_pos rfl]
  rw [hs]
  have HC : Hid (Calls Try.prog 24 #[.int .i64 n, .int .u64 (x * y % 18446744073709551616 : Nat)] w fun e w' => e = .returned (.int .u64 (x * y % 2 ^ n : Nat)) ∧ w = w') := by
    have := Cut_any n hn (x * y % 18446744073709551616) (Nat.mod_lt _ (by decide)) w
    rw [mod_mod64 hn] at this
    exact this
  have HE : Hid (y % 2 ^ n = y) := Nat.mod_eq_of_lt hyl
  have HB : Hid (∀ i : Nat, i ≤ 1000 → Calls Try.prog 33 #[.int .u64 y, .int .i64 i] w fun e w' => e = .returned (.int .u64 (btN y i : Nat)) ∧ w = w') := fun i hi => bit_any y i hi (by omega) w
  obtain ⟨s, hse⟩ : ∃ s : Nat, s = x * y % 2 ^ n := ⟨_, rfl⟩
  rw [← hse] at HC ⊢
  have HX64 := hid (show x < 18446744073709551616 by omega)
  have hn64 := hn8.2
  obtain ⟨sx, hsx⟩ : ∃ s, s = sg n x := ⟨_, rfl⟩
  obtain ⟨sy, hsy⟩ : ∃ s, s = sg n y := ⟨_, rfl⟩
  rw [← hsx] at HSX
  rw [← hsy] at HSY
  clear h1 h2 h3 h4 hn hxl hyl hs hse hsx hsy hk hn8
  go_enter Try.func17, Try.ntmps17
  repeat' (first
    | (with_reducible refine wp_exit ?_; repeat (first | with_reducible refine ex_norm ?_ | with_reducible refine ex_then ?_ | with_reducible refine ex_here ?_ | with_reducible refine ex_pass rfl ?_))
    | (go_big_may; first
      | (go_at_call 32; refine HK.out.mono ?_; rintro e w' ⟨rfl, rfl⟩)
      | (go_at_call 24; ((with_reducible refine HX.out.mono ?_); rintro e w' ⟨rfl, rfl⟩))
      | (go_at_call 24; ((with_reducible refine HY.out.mono ?_); rintro e w' ⟨rfl, rfl⟩))
      | (go_at_call 23; ((with_reducible refine HSX.out.mono ?_); rintro e w' ⟨rfl, rfl⟩))
      | (go_at_call 23; ((with_reducible refine HSY.out.mono ?_); rintro e w' ⟨rfl, rfl⟩)))
    | go_values | go_skip | go_guarded | go_step | go_upon | go_back | dsimp only)
  clear hkk
  go_loop [2, 14, 15] (fun va vs vi => ∃ i : Nat, i ≤ n ∧ vi = .int .i64 i ∧ va = .int .u64 ((x * 2 ^ i % 18446744073709551616 : Nat) : Int) ∧ vs = .int .u64 ((x * (y % 2 ^ i) % 18446744073709551616 : Nat) : Int)) (fun _ _ vi => n - (intOf vi).toNat)
  case atStart => exact ⟨0, Nat.zero_le _, rfl, by rw [Nat.pow_zero, Nat.mul_one, Nat.mod_eq_of_lt HX64.out], by rw [Nat.pow_zero, Nat.mod_one, Nat.mul_zero]; rfl⟩
  case round =>
    obtain ⟨i, hi, rfl, rfl, rfl⟩ := hrel
    by_cases hlt : i < n
    · have hst := mul_step x y i
      have hpw : x * 2 ^ (i + 1) = x * 2 ^ i * 2 := by rw [Nat.pow_succ, Nat.mul_assoc]
      have hBt := HB.out i (by omega)
      have hb := btN_le y i
      obtain ⟨t, ht⟩ : ∃ t : Nat, t = btN y i := ⟨_, rfl⟩
      rw [← ht] at hst hBt hb
      obtain ⟨A, hA⟩ : ∃ A : Nat, A = x * 2 ^ i := ⟨_, rfl⟩
      obtain ⟨S, hS⟩ : ∃ S : Nat, S = x * (y % 2 ^ i) := ⟨_, rfl⟩
      rw [← hA] at hst hpw
      rw [← hS] at hst
      rw [← hA, ← hS]
      obtain ⟨c, hc⟩ : ∃ c : Nat, c = A % 18446744073709551616 := ⟨_, rfl⟩
      obtain ⟨d, hd⟩ : ∃ d : Nat, d = S % 18446744073709551616 := ⟨_, rfl⟩
      have hw1 : IntKind.u64.wrap ((c : Int) * 2) = ((x * 2 ^ (i + 1) % 18446744073709551616 : Nat) : Int) := by
        rw [hpw, IntKind.wrap_u64]; omega
      obtain ⟨c2, hc2⟩ : ∃ c2 : Nat, c2 = x * 2 ^ (i + 1) % 18446744073709551616 := ⟨_, rfl⟩
      rw [← hc2] at hw1
      have HC2 := hid hc2
      rw [← hc, ← hd]
      have ht2 : t = 0 ∨ t = 1 := by omega
      rcases ht2 with rfl | rfl
      · have e : x * (y % 2 ^ (i + 1)) % 18446744073709551616 = d := by rw [hst, hd]; simp
        have HE2 := hid e
        have HBt : Hid (Calls Try.prog 33 #[.int .u64 y, .int .i64 i] w fun e w' => e = .returned (.int .u64 0) ∧ w = w') := hBt
        clear hst hpw hBt hb ht hA hS hc hd hc2 e
        go_wp2_with (go_at_call 33; refine HBt.out.mono ?_; rintro e w' ⟨rfl, rfl⟩)
        go_round
        case rel => exact ⟨i + 1, by omega, by go_num, by rw [HC2.out], by rw [HE2.out]⟩
        case measure => simp [intOf]; omega
      · have hw2 : IntKind.u64.wrap ((d : Int) + (c : Int)) = ((x * (y % 2 ^ (i + 1)) % 18446744073709551616 : Nat) : Int) := by
          rw [hst, IntKind.wrap_u64, Nat.mul_one]; omega
        obtain ⟨d2, hd2⟩ : ∃ d2 : Nat, d2 = x * (y % 2 ^ (i + 1)) % 18446744073709551616 := ⟨_, rfl⟩
        rw [← hd2] at hw2
        have HD2 := hid hd2
        have HBt : Hid (Calls Try.prog 33 #[.int .u64 y, .int .i64 i] w fun e w' => e = .returned (.int .u64 1) ∧ w = w') := hBt
        clear hst hpw hBt hb ht hA hS hc hd hc2 hd2
        go_wp2_with (go_at_call 33; refine HBt.out.mono ?_; rintro e w' ⟨rfl, rfl⟩)
        go_round
        case rel => exact ⟨i + 1, by omega, by go_num, by rw [HC2.out], by rw [HD2.out]⟩
        case measure => simp [intOf]; omega
    · obtain rfl : i = n := by omega
      rw [HE.out]
      obtain ⟨v, hv⟩ : ∃ v : Nat, v = x * y % 18446744073709551616 := ⟨_, rfl⟩
      rw [← hv] at HC ⊢
      clear hv
      go_wp2_with (go_at_call 24; refine HC.out.mono ?_; rintro e w' ⟨rfl, rfl⟩)
      go_ret2
      exact div_post rfl rfl (Below.refl _ _)

end Go.Proofs.Yticcmbeikdemmaa
