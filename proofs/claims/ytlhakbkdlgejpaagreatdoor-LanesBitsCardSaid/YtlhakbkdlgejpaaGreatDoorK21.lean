/-
  RefBin: merged, what the law does not reach left out (each text says what it holds where it lies in wip). No condition.
-/
import Derived.Test.YtlhakbkdlgejpaaGreatDoorK19
import Derived.Test.YtlhakbkdlgejpaaGreatDoorK20
import Derived.Test.YtlhakbkdlgejpaaGreatDoorK02
import Derived.Test.YtlhakbkdlgejpaaGreatDoorK04
set_option linter.unusedSimpArgs false
set_option linter.unusedVariables false
set_option maxRecDepth 100000
namespace Go.Proofs.YtlhakbkdlgejpaaGreatDoor
open Go.RowKit
theorem held_any (n : Nat) (hn : Okn n) (op : Nat) (h1 : 16 ≤ op) (h2 : op ≤ 24) (a b : Nat) (ha : a < 2 ^ n) (hb : b < 2 ^ n) (w : World) :
    Calls Tryz.prog 232 #[.int .i64 n, .int .i64 op, .int .u64 a, .int .u64 b, .int .i64 (sg n a), .int .i64 (sg n b)] w fun e w' => e = .returned (.int .u64 ((binR n op a b).1 : Nat)) ∧ w = w' := by
  have hop : op = 16 ∨ op = 17 ∨ op = 18 ∨ op = 19 ∨ op = 20 ∨ op = 21 ∨ op = 22 ∨ op = 23 ∨ op = 24 := by omega
  rcases hop with rfl | rfl | rfl | rfl | rfl | rfl | rfl | rfl | rfl
  · exact held_sat n hn 16 (.inl rfl) a b ha hb w
  · exact held_17 n hn a b ha hb w
  · exact held_sat n hn 18 (.inr rfl) a b ha hb w
  · exact held_19 n hn a b ha hb w
  · exact held_20 n hn a b ha hb w
  · exact held_21 n hn a b ha hb w
  · exact held_22 n hn a b ha hb w
  · exact held_23 n hn a b ha hb w
  · exact held_24 n hn a b ha hb w
theorem RSigned_cut (n : Nat) (hn : Okn n) (x : Nat) (hx : x < 2 ^ n) (w : World) :
    Calls Tryz.prog 143 #[.int .i64 n, .int .u64 x] w fun e w' => e = .returned (.int .i64 (sg n x)) ∧ w = w' := by
  have := RSigned_ok n hn x (by have := (pow_lt64 hn).2.2.1; omega) w
  rw [Nat.mod_eq_of_lt hx] at this
  exact this
set_option maxRecDepth 100000 in
set_option maxHeartbeats 1600000 in
theorem RBin_1 (n : Nat) (hn : Okn n) (a b : Nat) (ha : a < 18446744073709551616) (hb : b < 18446744073709551616) (w : World) :
    Calls Tryz.prog 151 #[.int .i64 n, .int .i64 1, .int .u64 a, .int .u64 b] w (DivPost w (binR n 1 (a % 2 ^ n) (b % 2 ^ n))) := by
  obtain ⟨h1, h2, h3, h4⟩ := pow_lt64 hn
  have hn8 := hn.le
  have HK := hid (Right_yes n hn w)
  have HX := hid (Cut_any n hn a ha w)
  have HY := hid (Cut_any n hn b hb w)
  obtain ⟨x, hx⟩ : ∃ x : Nat, x = a % 2 ^ n := ⟨_, rfl⟩
  obtain ⟨y, hy⟩ : ∃ y : Nat, y = b % 2 ^ n := ⟨_, rfl⟩
  have hxl : x < 2 ^ n := by rw [hx]; exact Nat.mod_lt _ (Nat.two_pow_pos n)
  have hyl : y < 2 ^ n := by rw [hy]; exact Nat.mod_lt _ (Nat.two_pow_pos n)
  have HSX := hid (RSigned_cut n hn x hxl w)
  have HSY := hid (RSigned_cut n hn y hyl w)
  rw [← hx] at HX
  rw [← hy] at HY
  rw [← hx, ← hy]
  obtain ⟨k, hk⟩ : ∃ k : Nat, k = y % n := ⟨_, rfl⟩
  have hkn : k < n := by rw [hk]; exact Nat.mod_lt _ (by omega)
  have hkk : (y : Int) % (n : Int) = (k : Int) := by rw [hk]; simp
  have hnw := wrap_nat (show n < 18446744073709551616 by omega)
  have hn0 : 0 < (n : Int) := by omega
  have hk64 : k ≤ 63 := by omega
  clear hx hy ha hb
  have hs : binR n 1 x y = ((x + y) % 18446744073709551616 % 2 ^ n, 0) := by rw [binR, if_pos rfl, mod_mod64 hn]
  rw [hs]
  obtain ⟨v, hv⟩ : ∃ v : Nat, v = (x + y) % 18446744073709551616 := ⟨_, rfl⟩
  have hw : IntKind.u64.wrap ((x : Int) + (y : Int)) = (v : Int) := by rw [IntKind.wrap_u64]; omega
  have HC := hid (Cut_any n hn v (by omega) w)
  rw [← hv]
  obtain ⟨s, hse⟩ : ∃ s : Nat, s = v % 2 ^ n := ⟨_, rfl⟩
  rw [← hse] at HC ⊢
  obtain ⟨sx, hsx⟩ : ∃ s, s = sg n x := ⟨_, rfl⟩
  obtain ⟨sy, hsy⟩ : ∃ s, s = sg n y := ⟨_, rfl⟩
  rw [← hsx] at HSX
  rw [← hsy] at HSY
  clear h1 h2 h3 h4 hn hxl hyl hs hv hse hsx hsy hk hn8
  go_enter Tryz.func151, Tryz.ntmps151
  repeat' (first
    | (with_reducible refine wp_exit ?_; repeat (first | with_reducible refine ex_norm ?_ | with_reducible refine ex_then ?_ | with_reducible refine ex_here ?_ | with_reducible refine ex_pass rfl ?_))
    | (go_big_may; first
      | (go_at_call 196; refine HK.out.mono ?_; rintro e w' ⟨rfl, rfl⟩)
      | (go_at_call 81; ((with_reducible refine HX.out.mono ?_); rintro e w' ⟨rfl, rfl⟩))
      | (go_at_call 81; ((with_reducible refine HY.out.mono ?_); rintro e w' ⟨rfl, rfl⟩))
      | (go_at_call 143; ((with_reducible refine HSX.out.mono ?_); rintro e w' ⟨rfl, rfl⟩))
      | (go_at_call 143; ((with_reducible refine HSY.out.mono ?_); rintro e w' ⟨rfl, rfl⟩))
      | (go_at_call 81; ((with_reducible refine HC.out.mono ?_); rintro e w' ⟨rfl, rfl⟩)))
    | go_values | go_skip | go_guarded | go_step | go_upon | go_back | dsimp only)
  go_ret2
  exact div_post rfl rfl (Below.refl _ _)
set_option maxRecDepth 100000 in
set_option maxHeartbeats 1600000 in
theorem RBin_2 (n : Nat) (hn : Okn n) (a b : Nat) (ha : a < 18446744073709551616) (hb : b < 18446744073709551616) (w : World) :
    Calls Tryz.prog 151 #[.int .i64 n, .int .i64 2, .int .u64 a, .int .u64 b] w (DivPost w (binR n 2 (a % 2 ^ n) (b % 2 ^ n))) := by
  obtain ⟨h1, h2, h3, h4⟩ := pow_lt64 hn
  have hn8 := hn.le
  have HK := hid (Right_yes n hn w)
  have HX := hid (Cut_any n hn a ha w)
  have HY := hid (Cut_any n hn b hb w)
  obtain ⟨x, hx⟩ : ∃ x : Nat, x = a % 2 ^ n := ⟨_, rfl⟩
  obtain ⟨y, hy⟩ : ∃ y : Nat, y = b % 2 ^ n := ⟨_, rfl⟩
  have hxl : x < 2 ^ n := by rw [hx]; exact Nat.mod_lt _ (Nat.two_pow_pos n)
  have hyl : y < 2 ^ n := by rw [hy]; exact Nat.mod_lt _ (Nat.two_pow_pos n)
  have HSX := hid (RSigned_cut n hn x hxl w)
  have HSY := hid (RSigned_cut n hn y hyl w)
  rw [← hx] at HX
  rw [← hy] at HY
  rw [← hx, ← hy]
  obtain ⟨k, hk⟩ : ∃ k : Nat, k = y % n := ⟨_, rfl⟩
  have hkn : k < n := by rw [hk]; exact Nat.mod_lt _ (by omega)
  have hkk : (y : Int) % (n : Int) = (k : Int) := by rw [hk]; simp
  have hnw := wrap_nat (show n < 18446744073709551616 by omega)
  have hn0 : 0 < (n : Int) := by omega
  have hk64 : k ≤ 63 := by omega
  clear hx hy ha hb
  have hs : binR n 2 x y = ((x + (18446744073709551616 - y)) % 18446744073709551616 % 2 ^ n, 0) := by
    rw [binR, if_neg (by decide), if_pos rfl]
    congr 1
    clear HK HX HY HSX HSY hkk hnw hkn hn0 hk64 hk hn8
    rcases hn with rfl | rfl | rfl | rfl <;> simp at hxl hyl ⊢ <;> omega
  rw [hs]
  obtain ⟨v, hv⟩ : ∃ v : Nat, v = (x + (18446744073709551616 - y)) % 18446744073709551616 := ⟨_, rfl⟩
  have hw : IntKind.u64.wrap ((x : Int) - (y : Int)) = (v : Int) := by rw [IntKind.wrap_u64]; omega
  have HC := hid (Cut_any n hn v (by omega) w)
  rw [← hv]
  obtain ⟨s, hse⟩ : ∃ s : Nat, s = v % 2 ^ n := ⟨_, rfl⟩
  rw [← hse] at HC ⊢
  obtain ⟨sx, hsx⟩ : ∃ s, s = sg n x := ⟨_, rfl⟩
  obtain ⟨sy, hsy⟩ : ∃ s, s = sg n y := ⟨_, rfl⟩
  rw [← hsx] at HSX
  rw [← hsy] at HSY
  clear h1 h2 h3 h4 hn hxl hyl hs hv hse hsx hsy hk hn8
  go_enter Tryz.func151, Tryz.ntmps151
  repeat' (first
    | (with_reducible refine wp_exit ?_; repeat (first | with_reducible refine ex_norm ?_ | with_reducible refine ex_then ?_ | with_reducible refine ex_here ?_ | with_reducible refine ex_pass rfl ?_))
    | (go_big_may; first
      | (go_at_call 196; refine HK.out.mono ?_; rintro e w' ⟨rfl, rfl⟩)
      | (go_at_call 81; ((with_reducible refine HX.out.mono ?_); rintro e w' ⟨rfl, rfl⟩))
      | (go_at_call 81; ((with_reducible refine HY.out.mono ?_); rintro e w' ⟨rfl, rfl⟩))
      | (go_at_call 143; ((with_reducible refine HSX.out.mono ?_); rintro e w' ⟨rfl, rfl⟩))
      | (go_at_call 143; ((with_reducible refine HSY.out.mono ?_); rintro e w' ⟨rfl, rfl⟩))
      | (go_at_call 81; ((with_reducible refine HC.out.mono ?_); rintro e w' ⟨rfl, rfl⟩)))
    | go_values | go_skip | go_guarded | go_step | go_upon | go_back | dsimp only)
  go_ret2
  exact div_post rfl rfl (Below.refl _ _)
set_option maxRecDepth 100000 in
set_option maxHeartbeats 1600000 in
theorem RBin_4 (n : Nat) (hn : Okn n) (a b : Nat) (ha : a < 18446744073709551616) (hb : b < 18446744073709551616) (w : World) :
    Calls Tryz.prog 151 #[.int .i64 n, .int .i64 4, .int .u64 a, .int .u64 b] w (DivPost w (binR n 4 (a % 2 ^ n) (b % 2 ^ n))) := by
  obtain ⟨h1, h2, h3, h4⟩ := pow_lt64 hn
  have hn8 := hn.le
  have HK := hid (Right_yes n hn w)
  have HX := hid (Cut_any n hn a ha w)
  have HY := hid (Cut_any n hn b hb w)
  obtain ⟨x, hx⟩ : ∃ x : Nat, x = a % 2 ^ n := ⟨_, rfl⟩
  obtain ⟨y, hy⟩ : ∃ y : Nat, y = b % 2 ^ n := ⟨_, rfl⟩
  have hxl : x < 2 ^ n := by rw [hx]; exact Nat.mod_lt _ (Nat.two_pow_pos n)
  have hyl : y < 2 ^ n := by rw [hy]; exact Nat.mod_lt _ (Nat.two_pow_pos n)
  have HSX := hid (RSigned_cut n hn x hxl w)
  have HSY := hid (RSigned_cut n hn y hyl w)
  rw [← hx] at HX
  rw [← hy] at HY
  rw [← hx, ← hy]
  obtain ⟨k, hk⟩ : ∃ k : Nat, k = y % n := ⟨_, rfl⟩
  have hkn : k < n := by rw [hk]; exact Nat.mod_lt _ (by omega)
  have hkk : (y : Int) % (n : Int) = (k : Int) := by rw [hk]; simp
  have hnw := wrap_nat (show n < 18446744073709551616 by omega)
  have hn0 : 0 < (n : Int) := by omega
  have hk64 : k ≤ 63 := by omega
  clear hx hy ha hb
  have hs : binR n 4 x y = divR n 4 x y := by
    rw [binR, if_neg (by decide), if_neg (by decide), if_neg (by decide), if_pos (by decide)]
  rw [hs]
  have HD := hid (rdivided_any n hn 4 (by decide) (by decide) x y hxl hyl w)
  unfold DivPost at HD
  obtain ⟨d1, h5⟩ : ∃ d : Nat, d = (divR n 4 x y).1 := ⟨_, rfl⟩
  obtain ⟨d2, h6⟩ : ∃ d : Nat, d = (divR n 4 x y).2 := ⟨_, rfl⟩
  rw [← h5, ← h6] at HD
  have H5 := hid (And.intro h5 h6)
  obtain ⟨sx, hsx⟩ : ∃ s, s = sg n x := ⟨_, rfl⟩
  obtain ⟨sy, hsy⟩ : ∃ s, s = sg n y := ⟨_, rfl⟩
  rw [← hsx] at HSX HD
  rw [← hsy] at HSY HD
  clear h1 h2 h3 h4 h5 h6 hn hxl hyl hs hsx hsy hk hn8
  go_enter Tryz.func151, Tryz.ntmps151
  repeat' (first
    | (with_reducible refine wp_exit ?_; repeat (first | with_reducible refine ex_norm ?_ | with_reducible refine ex_then ?_ | with_reducible refine ex_here ?_ | with_reducible refine ex_pass rfl ?_))
    | (go_big_may; first
      | (go_at_call 196; refine HK.out.mono ?_; rintro e w' ⟨rfl, rfl⟩)
      | (go_at_call 81; ((with_reducible refine HX.out.mono ?_); rintro e w' ⟨rfl, rfl⟩))
      | (go_at_call 81; ((with_reducible refine HY.out.mono ?_); rintro e w' ⟨rfl, rfl⟩))
      | (go_at_call 143; ((with_reducible refine HSX.out.mono ?_); rintro e w' ⟨rfl, rfl⟩))
      | (go_at_call 143; ((with_reducible refine HSY.out.mono ?_); rintro e w' ⟨rfl, rfl⟩))
      | (go_at_call 230; refine HD.out.mono ?_; rintro e w1 ⟨rfl, hB1⟩))
    | go_values | go_skip | go_guarded | go_step | go_upon | go_back | dsimp only)
  go_ret2
  exact div_post (by rw [H5.out.1]) (by rw [H5.out.2]) hB1
set_option maxRecDepth 100000 in
set_option maxHeartbeats 1600000 in
theorem RBin_5 (n : Nat) (hn : Okn n) (a b : Nat) (ha : a < 18446744073709551616) (hb : b < 18446744073709551616) (w : World) :
    Calls Tryz.prog 151 #[.int .i64 n, .int .i64 5, .int .u64 a, .int .u64 b] w (DivPost w (binR n 5 (a % 2 ^ n) (b % 2 ^ n))) := by
  obtain ⟨h1, h2, h3, h4⟩ := pow_lt64 hn
  have hn8 := hn.le
  have HK := hid (Right_yes n hn w)
  have HX := hid (Cut_any n hn a ha w)
  have HY := hid (Cut_any n hn b hb w)
  obtain ⟨x, hx⟩ : ∃ x : Nat, x = a % 2 ^ n := ⟨_, rfl⟩
  obtain ⟨y, hy⟩ : ∃ y : Nat, y = b % 2 ^ n := ⟨_, rfl⟩
  have hxl : x < 2 ^ n := by rw [hx]; exact Nat.mod_lt _ (Nat.two_pow_pos n)
  have hyl : y < 2 ^ n := by rw [hy]; exact Nat.mod_lt _ (Nat.two_pow_pos n)
  have HSX := hid (RSigned_cut n hn x hxl w)
  have HSY := hid (RSigned_cut n hn y hyl w)
  rw [← hx] at HX
  rw [← hy] at HY
  rw [← hx, ← hy]
  obtain ⟨k, hk⟩ : ∃ k : Nat, k = y % n := ⟨_, rfl⟩
  have hkn : k < n := by rw [hk]; exact Nat.mod_lt _ (by omega)
  have hkk : (y : Int) % (n : Int) = (k : Int) := by rw [hk]; simp
  have hnw := wrap_nat (show n < 18446744073709551616 by omega)
  have hn0 : 0 < (n : Int) := by omega
  have hk64 : k ≤ 63 := by omega
  clear hx hy ha hb
  have hs : binR n 5 x y = divR n 5 x y := by
    rw [binR, if_neg (by decide), if_neg (by decide), if_neg (by decide), if_pos (by decide)]
  rw [hs]
  have HD := hid (rdivided_any n hn 5 (by decide) (by decide) x y hxl hyl w)
  unfold DivPost at HD
  obtain ⟨d1, h5⟩ : ∃ d : Nat, d = (divR n 5 x y).1 := ⟨_, rfl⟩
  obtain ⟨d2, h6⟩ : ∃ d : Nat, d = (divR n 5 x y).2 := ⟨_, rfl⟩
  rw [← h5, ← h6] at HD
  have H5 := hid (And.intro h5 h6)
  obtain ⟨sx, hsx⟩ : ∃ s, s = sg n x := ⟨_, rfl⟩
  obtain ⟨sy, hsy⟩ : ∃ s, s = sg n y := ⟨_, rfl⟩
  rw [← hsx] at HSX HD
  rw [← hsy] at HSY HD
  clear h1 h2 h3 h4 h5 h6 hn hxl hyl hs hsx hsy hk hn8
  go_enter Tryz.func151, Tryz.ntmps151
  repeat' (first
    | (with_reducible refine wp_exit ?_; repeat (first | with_reducible refine ex_norm ?_ | with_reducible refine ex_then ?_ | with_reducible refine ex_here ?_ | with_reducible refine ex_pass rfl ?_))
    | (go_big_may; first
      | (go_at_call 196; refine HK.out.mono ?_; rintro e w' ⟨rfl, rfl⟩)
      | (go_at_call 81; ((with_reducible refine HX.out.mono ?_); rintro e w' ⟨rfl, rfl⟩))
      | (go_at_call 81; ((with_reducible refine HY.out.mono ?_); rintro e w' ⟨rfl, rfl⟩))
      | (go_at_call 143; ((with_reducible refine HSX.out.mono ?_); rintro e w' ⟨rfl, rfl⟩))
      | (go_at_call 143; ((with_reducible refine HSY.out.mono ?_); rintro e w' ⟨rfl, rfl⟩))
      | (go_at_call 230; refine HD.out.mono ?_; rintro e w1 ⟨rfl, hB1⟩))
    | go_values | go_skip | go_guarded | go_step | go_upon | go_back | dsimp only)
  go_ret2
  exact div_post (by rw [H5.out.1]) (by rw [H5.out.2]) hB1
set_option maxRecDepth 100000 in
set_option maxHeartbeats 1600000 in
theorem RBin_6 (n : Nat) (hn : Okn n) (a b : Nat) (ha : a < 18446744073709551616) (hb : b < 18446744073709551616) (w : World) :
    Calls Tryz.prog 151 #[.int .i64 n, .int .i64 6, .int .u64 a, .int .u64 b] w (DivPost w (binR n 6 (a % 2 ^ n) (b % 2 ^ n))) := by
  obtain ⟨h1, h2, h3, h4⟩ := pow_lt64 hn
  have hn8 := hn.le
  have HK := hid (Right_yes n hn w)
  have HX := hid (Cut_any n hn a ha w)
  have HY := hid (Cut_any n hn b hb w)
  obtain ⟨x, hx⟩ : ∃ x : Nat, x = a % 2 ^ n := ⟨_, rfl⟩
  obtain ⟨y, hy⟩ : ∃ y : Nat, y = b % 2 ^ n := ⟨_, rfl⟩
  have hxl : x < 2 ^ n := by rw [hx]; exact Nat.mod_lt _ (Nat.two_pow_pos n)
  have hyl : y < 2 ^ n := by rw [hy]; exact Nat.mod_lt _ (Nat.two_pow_pos n)
  have HSX := hid (RSigned_cut n hn x hxl w)
  have HSY := hid (RSigned_cut n hn y hyl w)
  rw [← hx] at HX
  rw [← hy] at HY
  rw [← hx, ← hy]
  obtain ⟨k, hk⟩ : ∃ k : Nat, k = y % n := ⟨_, rfl⟩
  have hkn : k < n := by rw [hk]; exact Nat.mod_lt _ (by omega)
  have hkk : (y : Int) % (n : Int) = (k : Int) := by rw [hk]; simp
  have hnw := wrap_nat (show n < 18446744073709551616 by omega)
  have hn0 : 0 < (n : Int) := by omega
  have hk64 : k ≤ 63 := by omega
  clear hx hy ha hb
  have hs : binR n 6 x y = divR n 6 x y := by
    rw [binR, if_neg (by decide), if_neg (by decide), if_neg (by decide), if_pos (by decide)]
  rw [hs]
  have HD := hid (rdivided_any n hn 6 (by decide) (by decide) x y hxl hyl w)
  unfold DivPost at HD
  obtain ⟨d1, h5⟩ : ∃ d : Nat, d = (divR n 6 x y).1 := ⟨_, rfl⟩
  obtain ⟨d2, h6⟩ : ∃ d : Nat, d = (divR n 6 x y).2 := ⟨_, rfl⟩
  rw [← h5, ← h6] at HD
  have H5 := hid (And.intro h5 h6)
  obtain ⟨sx, hsx⟩ : ∃ s, s = sg n x := ⟨_, rfl⟩
  obtain ⟨sy, hsy⟩ : ∃ s, s = sg n y := ⟨_, rfl⟩
  rw [← hsx] at HSX HD
  rw [← hsy] at HSY HD
  clear h1 h2 h3 h4 h5 h6 hn hxl hyl hs hsx hsy hk hn8
  go_enter Tryz.func151, Tryz.ntmps151
  repeat' (first
    | (with_reducible refine wp_exit ?_; repeat (first | with_reducible refine ex_norm ?_ | with_reducible refine ex_then ?_ | with_reducible refine ex_here ?_ | with_reducible refine ex_pass rfl ?_))
    | (go_big_may; first
      | (go_at_call 196; refine HK.out.mono ?_; rintro e w' ⟨rfl, rfl⟩)
      | (go_at_call 81; ((with_reducible refine HX.out.mono ?_); rintro e w' ⟨rfl, rfl⟩))
      | (go_at_call 81; ((with_reducible refine HY.out.mono ?_); rintro e w' ⟨rfl, rfl⟩))
      | (go_at_call 143; ((with_reducible refine HSX.out.mono ?_); rintro e w' ⟨rfl, rfl⟩))
      | (go_at_call 143; ((with_reducible refine HSY.out.mono ?_); rintro e w' ⟨rfl, rfl⟩))
      | (go_at_call 230; refine HD.out.mono ?_; rintro e w1 ⟨rfl, hB1⟩))
    | go_values | go_skip | go_guarded | go_step | go_upon | go_back | dsimp only)
  go_ret2
  exact div_post (by rw [H5.out.1]) (by rw [H5.out.2]) hB1
set_option maxRecDepth 100000 in
set_option maxHeartbeats 1600000 in
theorem RBin_7 (n : Nat) (hn : Okn n) (a b : Nat) (ha : a < 18446744073709551616) (hb : b < 18446744073709551616) (w : World) :
    Calls Tryz.prog 151 #[.int .i64 n, .int .i64 7, .int .u64 a, .int .u64 b] w (DivPost w (binR n 7 (a % 2 ^ n) (b % 2 ^ n))) := by
  obtain ⟨h1, h2, h3, h4⟩ := pow_lt64 hn
  have hn8 := hn.le
  have HK := hid (Right_yes n hn w)
  have HX := hid (Cut_any n hn a ha w)
  have HY := hid (Cut_any n hn b hb w)
  obtain ⟨x, hx⟩ : ∃ x : Nat, x = a % 2 ^ n := ⟨_, rfl⟩
  obtain ⟨y, hy⟩ : ∃ y : Nat, y = b % 2 ^ n := ⟨_, rfl⟩
  have hxl : x < 2 ^ n := by rw [hx]; exact Nat.mod_lt _ (Nat.two_pow_pos n)
  have hyl : y < 2 ^ n := by rw [hy]; exact Nat.mod_lt _ (Nat.two_pow_pos n)
  have HSX := hid (RSigned_cut n hn x hxl w)
  have HSY := hid (RSigned_cut n hn y hyl w)
  rw [← hx] at HX
  rw [← hy] at HY
  rw [← hx, ← hy]
  obtain ⟨k, hk⟩ : ∃ k : Nat, k = y % n := ⟨_, rfl⟩
  have hkn : k < n := by rw [hk]; exact Nat.mod_lt _ (by omega)
  have hkk : (y : Int) % (n : Int) = (k : Int) := by rw [hk]; simp
  have hnw := wrap_nat (show n < 18446744073709551616 by omega)
  have hn0 : 0 < (n : Int) := by omega
  have hk64 : k ≤ 63 := by omega
  clear hx hy ha hb
  have hs : binR n 7 x y = divR n 7 x y := by
    rw [binR, if_neg (by decide), if_neg (by decide), if_neg (by decide), if_pos (by decide)]
  rw [hs]
  have HD := hid (rdivided_any n hn 7 (by decide) (by decide) x y hxl hyl w)
  unfold DivPost at HD
  obtain ⟨d1, h5⟩ : ∃ d : Nat, d = (divR n 7 x y).1 := ⟨_, rfl⟩
  obtain ⟨d2, h6⟩ : ∃ d : Nat, d = (divR n 7 x y).2 := ⟨_, rfl⟩
  rw [← h5, ← h6] at HD
  have H5 := hid (And.intro h5 h6)
  obtain ⟨sx, hsx⟩ : ∃ s, s = sg n x := ⟨_, rfl⟩
  obtain ⟨sy, hsy⟩ : ∃ s, s = sg n y := ⟨_, rfl⟩
  rw [← hsx] at HSX HD
  rw [← hsy] at HSY HD
  clear h1 h2 h3 h4 h5 h6 hn hxl hyl hs hsx hsy hk hn8
  go_enter Tryz.func151, Tryz.ntmps151
  repeat' (first
    | (with_reducible refine wp_exit ?_; repeat (first | with_reducible refine ex_norm ?_ | with_reducible refine ex_then ?_ | with_reducible refine ex_here ?_ | with_reducible refine ex_pass rfl ?_))
    | (go_big_may; first
      | (go_at_call 196; refine HK.out.mono ?_; rintro e w' ⟨rfl, rfl⟩)
      | (go_at_call 81; ((with_reducible refine HX.out.mono ?_); rintro e w' ⟨rfl, rfl⟩))
      | (go_at_call 81; ((with_reducible refine HY.out.mono ?_); rintro e w' ⟨rfl, rfl⟩))
      | (go_at_call 143; ((with_reducible refine HSX.out.mono ?_); rintro e w' ⟨rfl, rfl⟩))
      | (go_at_call 143; ((with_reducible refine HSY.out.mono ?_); rintro e w' ⟨rfl, rfl⟩))
      | (go_at_call 230; refine HD.out.mono ?_; rintro e w1 ⟨rfl, hB1⟩))
    | go_values | go_skip | go_guarded | go_step | go_upon | go_back | dsimp only)
  go_ret2
  exact div_post (by rw [H5.out.1]) (by rw [H5.out.2]) hB1
set_option maxRecDepth 100000 in
set_option maxHeartbeats 1600000 in
theorem RBin_11 (n : Nat) (hn : Okn n) (a b : Nat) (ha : a < 18446744073709551616) (hb : b < 18446744073709551616) (w : World) :
    Calls Tryz.prog 151 #[.int .i64 n, .int .i64 11, .int .u64 a, .int .u64 b] w (DivPost w (binR n 11 (a % 2 ^ n) (b % 2 ^ n))) := by
  obtain ⟨h1, h2, h3, h4⟩ := pow_lt64 hn
  have hn8 := hn.le
  have HK := hid (Right_yes n hn w)
  have HX := hid (Cut_any n hn a ha w)
  have HY := hid (Cut_any n hn b hb w)
  obtain ⟨x, hx⟩ : ∃ x : Nat, x = a % 2 ^ n := ⟨_, rfl⟩
  obtain ⟨y, hy⟩ : ∃ y : Nat, y = b % 2 ^ n := ⟨_, rfl⟩
  have hxl : x < 2 ^ n := by rw [hx]; exact Nat.mod_lt _ (Nat.two_pow_pos n)
  have hyl : y < 2 ^ n := by rw [hy]; exact Nat.mod_lt _ (Nat.two_pow_pos n)
  have HSX := hid (RSigned_cut n hn x hxl w)
  have HSY := hid (RSigned_cut n hn y hyl w)
  rw [← hx] at HX
  rw [← hy] at HY
  rw [← hx, ← hy]
  obtain ⟨k, hk⟩ : ∃ k : Nat, k = y % n := ⟨_, rfl⟩
  have hkn : k < n := by rw [hk]; exact Nat.mod_lt _ (by omega)
  have hkk : (y : Int) % (n : Int) = (k : Int) := by rw [hk]; simp
  have hnw := wrap_nat (show n < 18446744073709551616 by omega)
  have hn0 : 0 < (n : Int) := by omega
  have hk64 : k ≤ 63 := by omega
  clear hx hy ha hb
  have hs : binR n 11 x y = (shiftR n 11 x (y % n), 0) := by
    rw [binR, if_neg (by decide), if_neg (by decide), if_neg (by decide), if_neg (by decide), if_neg (by decide), if_neg (by decide), if_neg (by decide), if_pos (by decide)]
  rw [hs, ← hk]
  have HD := hid (moved_any n hn 11 (by decide) (by decide) x k hxl hkn w)
  unfold MvPost at HD
  obtain ⟨s, h5⟩ : ∃ s : Nat, s = shiftR n 11 x k := ⟨_, rfl⟩
  rw [← h5] at HD ⊢
  obtain ⟨sx, hsx⟩ : ∃ s, s = sg n x := ⟨_, rfl⟩
  obtain ⟨sy, hsy⟩ : ∃ s, s = sg n y := ⟨_, rfl⟩
  rw [← hsx] at HSX
  rw [← hsy] at HSY
  clear h1 h2 h3 h4 h5 hn hxl hyl hs hsx hsy hk hn8
  go_enter Tryz.func151, Tryz.ntmps151
  repeat' (first
    | (with_reducible refine wp_exit ?_; repeat (first | with_reducible refine ex_norm ?_ | with_reducible refine ex_then ?_ | with_reducible refine ex_here ?_ | with_reducible refine ex_pass rfl ?_))
    | (go_big_may; first
      | (go_at_call 196; refine HK.out.mono ?_; rintro e w' ⟨rfl, rfl⟩)
      | (go_at_call 81; ((with_reducible refine HX.out.mono ?_); rintro e w' ⟨rfl, rfl⟩))
      | (go_at_call 81; ((with_reducible refine HY.out.mono ?_); rintro e w' ⟨rfl, rfl⟩))
      | (go_at_call 143; ((with_reducible refine HSX.out.mono ?_); rintro e w' ⟨rfl, rfl⟩))
      | (go_at_call 143; ((with_reducible refine HSY.out.mono ?_); rintro e w' ⟨rfl, rfl⟩))
      | (go_at_call 231; refine HD.out.mono ?_; rintro e w1 ⟨rfl, hB1⟩))
    | go_values | go_skip | go_guarded | go_step | go_upon | go_back | dsimp only)
  go_ret2
  exact div_post rfl rfl hB1
set_option maxRecDepth 100000 in
set_option maxHeartbeats 1600000 in
theorem RBin_12 (n : Nat) (hn : Okn n) (a b : Nat) (ha : a < 18446744073709551616) (hb : b < 18446744073709551616) (w : World) :
    Calls Tryz.prog 151 #[.int .i64 n, .int .i64 12, .int .u64 a, .int .u64 b] w (DivPost w (binR n 12 (a % 2 ^ n) (b % 2 ^ n))) := by
  obtain ⟨h1, h2, h3, h4⟩ := pow_lt64 hn
  have hn8 := hn.le
  have HK := hid (Right_yes n hn w)
  have HX := hid (Cut_any n hn a ha w)
  have HY := hid (Cut_any n hn b hb w)
  obtain ⟨x, hx⟩ : ∃ x : Nat, x = a % 2 ^ n := ⟨_, rfl⟩
  obtain ⟨y, hy⟩ : ∃ y : Nat, y = b % 2 ^ n := ⟨_, rfl⟩
  have hxl : x < 2 ^ n := by rw [hx]; exact Nat.mod_lt _ (Nat.two_pow_pos n)
  have hyl : y < 2 ^ n := by rw [hy]; exact Nat.mod_lt _ (Nat.two_pow_pos n)
  have HSX := hid (RSigned_cut n hn x hxl w)
  have HSY := hid (RSigned_cut n hn y hyl w)
  rw [← hx] at HX
  rw [← hy] at HY
  rw [← hx, ← hy]
  obtain ⟨k, hk⟩ : ∃ k : Nat, k = y % n := ⟨_, rfl⟩
  have hkn : k < n := by rw [hk]; exact Nat.mod_lt _ (by omega)
  have hkk : (y : Int) % (n : Int) = (k : Int) := by rw [hk]; simp
  have hnw := wrap_nat (show n < 18446744073709551616 by omega)
  have hn0 : 0 < (n : Int) := by omega
  have hk64 : k ≤ 63 := by omega
  clear hx hy ha hb
  have hs : binR n 12 x y = (shiftR n 12 x (y % n), 0) := by
    rw [binR, if_neg (by decide), if_neg (by decide), if_neg (by decide), if_neg (by decide), if_neg (by decide), if_neg (by decide), if_neg (by decide), if_pos (by decide)]
  rw [hs, ← hk]
  have HD := hid (moved_any n hn 12 (by decide) (by decide) x k hxl hkn w)
  unfold MvPost at HD
  obtain ⟨s, h5⟩ : ∃ s : Nat, s = shiftR n 12 x k := ⟨_, rfl⟩
  rw [← h5] at HD ⊢
  obtain ⟨sx, hsx⟩ : ∃ s, s = sg n x := ⟨_, rfl⟩
  obtain ⟨sy, hsy⟩ : ∃ s, s = sg n y := ⟨_, rfl⟩
  rw [← hsx] at HSX
  rw [← hsy] at HSY
  clear h1 h2 h3 h4 h5 hn hxl hyl hs hsx hsy hk hn8
  go_enter Tryz.func151, Tryz.ntmps151
  repeat' (first
    | (with_reducible refine wp_exit ?_; repeat (first | with_reducible refine ex_norm ?_ | with_reducible refine ex_then ?_ | with_reducible refine ex_here ?_ | with_reducible refine ex_pass rfl ?_))
    | (go_big_may; first
      | (go_at_call 196; refine HK.out.mono ?_; rintro e w' ⟨rfl, rfl⟩)
      | (go_at_call 81; ((with_reducible refine HX.out.mono ?_); rintro e w' ⟨rfl, rfl⟩))
      | (go_at_call 81; ((with_reducible refine HY.out.mono ?_); rintro e w' ⟨rfl, rfl⟩))
      | (go_at_call 143; ((with_reducible refine HSX.out.mono ?_); rintro e w' ⟨rfl, rfl⟩))
      | (go_at_call 143; ((with_reducible refine HSY.out.mono ?_); rintro e w' ⟨rfl, rfl⟩))
      | (go_at_call 231; refine HD.out.mono ?_; rintro e w1 ⟨rfl, hB1⟩))
    | go_values | go_skip | go_guarded | go_step | go_upon | go_back | dsimp only)
  go_ret2
  exact div_post rfl rfl hB1
set_option maxRecDepth 100000 in
set_option maxHeartbeats 1600000 in
theorem RBin_13 (n : Nat) (hn : Okn n) (a b : Nat) (ha : a < 18446744073709551616) (hb : b < 18446744073709551616) (w : World) :
    Calls Tryz.prog 151 #[.int .i64 n, .int .i64 13, .int .u64 a, .int .u64 b] w (DivPost w (binR n 13 (a % 2 ^ n) (b % 2 ^ n))) := by
  obtain ⟨h1, h2, h3, h4⟩ := pow_lt64 hn
  have hn8 := hn.le
  have HK := hid (Right_yes n hn w)
  have HX := hid (Cut_any n hn a ha w)
  have HY := hid (Cut_any n hn b hb w)
  obtain ⟨x, hx⟩ : ∃ x : Nat, x = a % 2 ^ n := ⟨_, rfl⟩
  obtain ⟨y, hy⟩ : ∃ y : Nat, y = b % 2 ^ n := ⟨_, rfl⟩
  have hxl : x < 2 ^ n := by rw [hx]; exact Nat.mod_lt _ (Nat.two_pow_pos n)
  have hyl : y < 2 ^ n := by rw [hy]; exact Nat.mod_lt _ (Nat.two_pow_pos n)
  have HSX := hid (RSigned_cut n hn x hxl w)
  have HSY := hid (RSigned_cut n hn y hyl w)
  rw [← hx] at HX
  rw [← hy] at HY
  rw [← hx, ← hy]
  obtain ⟨k, hk⟩ : ∃ k : Nat, k = y % n := ⟨_, rfl⟩
  have hkn : k < n := by rw [hk]; exact Nat.mod_lt _ (by omega)
  have hkk : (y : Int) % (n : Int) = (k : Int) := by rw [hk]; simp
  have hnw := wrap_nat (show n < 18446744073709551616 by omega)
  have hn0 : 0 < (n : Int) := by omega
  have hk64 : k ≤ 63 := by omega
  clear hx hy ha hb
  have hs : binR n 13 x y = (shiftR n 13 x (y % n), 0) := by
    rw [binR, if_neg (by decide), if_neg (by decide), if_neg (by decide), if_neg (by decide), if_neg (by decide), if_neg (by decide), if_neg (by decide), if_pos (by decide)]
  rw [hs, ← hk]
  have HD := hid (moved_any n hn 13 (by decide) (by decide) x k hxl hkn w)
  unfold MvPost at HD
  obtain ⟨s, h5⟩ : ∃ s : Nat, s = shiftR n 13 x k := ⟨_, rfl⟩
  rw [← h5] at HD ⊢
  obtain ⟨sx, hsx⟩ : ∃ s, s = sg n x := ⟨_, rfl⟩
  obtain ⟨sy, hsy⟩ : ∃ s, s = sg n y := ⟨_, rfl⟩
  rw [← hsx] at HSX
  rw [← hsy] at HSY
  clear h1 h2 h3 h4 h5 hn hxl hyl hs hsx hsy hk hn8
  go_enter Tryz.func151, Tryz.ntmps151
  repeat' (first
    | (with_reducible refine wp_exit ?_; repeat (first | with_reducible refine ex_norm ?_ | with_reducible refine ex_then ?_ | with_reducible refine ex_here ?_ | with_reducible refine ex_pass rfl ?_))
    | (go_big_may; first
      | (go_at_call 196; refine HK.out.mono ?_; rintro e w' ⟨rfl, rfl⟩)
      | (go_at_call 81; ((with_reducible refine HX.out.mono ?_); rintro e w' ⟨rfl, rfl⟩))
      | (go_at_call 81; ((with_reducible refine HY.out.mono ?_); rintro e w' ⟨rfl, rfl⟩))
      | (go_at_call 143; ((with_reducible refine HSX.out.mono ?_); rintro e w' ⟨rfl, rfl⟩))
      | (go_at_call 143; ((with_reducible refine HSY.out.mono ?_); rintro e w' ⟨rfl, rfl⟩))
      | (go_at_call 231; refine HD.out.mono ?_; rintro e w1 ⟨rfl, hB1⟩))
    | go_values | go_skip | go_guarded | go_step | go_upon | go_back | dsimp only)
  go_ret2
  exact div_post rfl rfl hB1
set_option maxRecDepth 100000 in
set_option maxHeartbeats 1600000 in
theorem RBin_14 (n : Nat) (hn : Okn n) (a b : Nat) (ha : a < 18446744073709551616) (hb : b < 18446744073709551616) (w : World) :
    Calls Tryz.prog 151 #[.int .i64 n, .int .i64 14, .int .u64 a, .int .u64 b] w (DivPost w (binR n 14 (a % 2 ^ n) (b % 2 ^ n))) := by
  obtain ⟨h1, h2, h3, h4⟩ := pow_lt64 hn
  have hn8 := hn.le
  have HK := hid (Right_yes n hn w)
  have HX := hid (Cut_any n hn a ha w)
  have HY := hid (Cut_any n hn b hb w)
  obtain ⟨x, hx⟩ : ∃ x : Nat, x = a % 2 ^ n := ⟨_, rfl⟩
  obtain ⟨y, hy⟩ : ∃ y : Nat, y = b % 2 ^ n := ⟨_, rfl⟩
  have hxl : x < 2 ^ n := by rw [hx]; exact Nat.mod_lt _ (Nat.two_pow_pos n)
  have hyl : y < 2 ^ n := by rw [hy]; exact Nat.mod_lt _ (Nat.two_pow_pos n)
  have HSX := hid (RSigned_cut n hn x hxl w)
  have HSY := hid (RSigned_cut n hn y hyl w)
  rw [← hx] at HX
  rw [← hy] at HY
  rw [← hx, ← hy]
  obtain ⟨k, hk⟩ : ∃ k : Nat, k = y % n := ⟨_, rfl⟩
  have hkn : k < n := by rw [hk]; exact Nat.mod_lt _ (by omega)
  have hkk : (y : Int) % (n : Int) = (k : Int) := by rw [hk]; simp
  have hnw := wrap_nat (show n < 18446744073709551616 by omega)
  have hn0 : 0 < (n : Int) := by omega
  have hk64 : k ≤ 63 := by omega
  clear hx hy ha hb
  have hs : binR n 14 x y = (shiftR n 14 x (y % n), 0) := by
    rw [binR, if_neg (by decide), if_neg (by decide), if_neg (by decide), if_neg (by decide), if_neg (by decide), if_neg (by decide), if_neg (by decide), if_pos (by decide)]
  rw [hs, ← hk]
  have HD := hid (moved_any n hn 14 (by decide) (by decide) x k hxl hkn w)
  unfold MvPost at HD
  obtain ⟨s, h5⟩ : ∃ s : Nat, s = shiftR n 14 x k := ⟨_, rfl⟩
  rw [← h5] at HD ⊢
  obtain ⟨sx, hsx⟩ : ∃ s, s = sg n x := ⟨_, rfl⟩
  obtain ⟨sy, hsy⟩ : ∃ s, s = sg n y := ⟨_, rfl⟩
  rw [← hsx] at HSX
  rw [← hsy] at HSY
  clear h1 h2 h3 h4 h5 hn hxl hyl hs hsx hsy hk hn8
  go_enter Tryz.func151, Tryz.ntmps151
  repeat' (first
    | (with_reducible refine wp_exit ?_; repeat (first | with_reducible refine ex_norm ?_ | with_reducible refine ex_then ?_ | with_reducible refine ex_here ?_ | with_reducible refine ex_pass rfl ?_))
    | (go_big_may; first
      | (go_at_call 196; refine HK.out.mono ?_; rintro e w' ⟨rfl, rfl⟩)
      | (go_at_call 81; ((with_reducible refine HX.out.mono ?_); rintro e w' ⟨rfl, rfl⟩))
      | (go_at_call 81; ((with_reducible refine HY.out.mono ?_); rintro e w' ⟨rfl, rfl⟩))
      | (go_at_call 143; ((with_reducible refine HSX.out.mono ?_); rintro e w' ⟨rfl, rfl⟩))
      | (go_at_call 143; ((with_reducible refine HSY.out.mono ?_); rintro e w' ⟨rfl, rfl⟩))
      | (go_at_call 231; refine HD.out.mono ?_; rintro e w1 ⟨rfl, hB1⟩))
    | go_values | go_skip | go_guarded | go_step | go_upon | go_back | dsimp only)
  go_ret2
  exact div_post rfl rfl hB1
set_option maxRecDepth 100000 in
set_option maxHeartbeats 1600000 in
theorem RBin_15 (n : Nat) (hn : Okn n) (a b : Nat) (ha : a < 18446744073709551616) (hb : b < 18446744073709551616) (w : World) :
    Calls Tryz.prog 151 #[.int .i64 n, .int .i64 15, .int .u64 a, .int .u64 b] w (DivPost w (binR n 15 (a % 2 ^ n) (b % 2 ^ n))) := by
  obtain ⟨h1, h2, h3, h4⟩ := pow_lt64 hn
  have hn8 := hn.le
  have HK := hid (Right_yes n hn w)
  have HX := hid (Cut_any n hn a ha w)
  have HY := hid (Cut_any n hn b hb w)
  obtain ⟨x, hx⟩ : ∃ x : Nat, x = a % 2 ^ n := ⟨_, rfl⟩
  obtain ⟨y, hy⟩ : ∃ y : Nat, y = b % 2 ^ n := ⟨_, rfl⟩
  have hxl : x < 2 ^ n := by rw [hx]; exact Nat.mod_lt _ (Nat.two_pow_pos n)
  have hyl : y < 2 ^ n := by rw [hy]; exact Nat.mod_lt _ (Nat.two_pow_pos n)
  have HSX := hid (RSigned_cut n hn x hxl w)
  have HSY := hid (RSigned_cut n hn y hyl w)
  rw [← hx] at HX
  rw [← hy] at HY
  rw [← hx, ← hy]
  obtain ⟨k, hk⟩ : ∃ k : Nat, k = y % n := ⟨_, rfl⟩
  have hkn : k < n := by rw [hk]; exact Nat.mod_lt _ (by omega)
  have hkk : (y : Int) % (n : Int) = (k : Int) := by rw [hk]; simp
  have hnw := wrap_nat (show n < 18446744073709551616 by omega)
  have hn0 : 0 < (n : Int) := by omega
  have hk64 : k ≤ 63 := by omega
  clear hx hy ha hb
  have hs : binR n 15 x y = (shiftR n 15 x (y % n), 0) := by
    rw [binR, if_neg (by decide), if_neg (by decide), if_neg (by decide), if_neg (by decide), if_neg (by decide), if_neg (by decide), if_neg (by decide), if_pos (by decide)]
  rw [hs, ← hk]
  have HD := hid (moved_any n hn 15 (by decide) (by decide) x k hxl hkn w)
  unfold MvPost at HD
  obtain ⟨s, h5⟩ : ∃ s : Nat, s = shiftR n 15 x k := ⟨_, rfl⟩
  rw [← h5] at HD ⊢
  obtain ⟨sx, hsx⟩ : ∃ s, s = sg n x := ⟨_, rfl⟩
  obtain ⟨sy, hsy⟩ : ∃ s, s = sg n y := ⟨_, rfl⟩
  rw [← hsx] at HSX
  rw [← hsy] at HSY
  clear h1 h2 h3 h4 h5 hn hxl hyl hs hsx hsy hk hn8
  go_enter Tryz.func151, Tryz.ntmps151
  repeat' (first
    | (with_reducible refine wp_exit ?_; repeat (first | with_reducible refine ex_norm ?_ | with_reducible refine ex_then ?_ | with_reducible refine ex_here ?_ | with_reducible refine ex_pass rfl ?_))
    | (go_big_may; first
      | (go_at_call 196; refine HK.out.mono ?_; rintro e w' ⟨rfl, rfl⟩)
      | (go_at_call 81; ((with_reducible refine HX.out.mono ?_); rintro e w' ⟨rfl, rfl⟩))
      | (go_at_call 81; ((with_reducible refine HY.out.mono ?_); rintro e w' ⟨rfl, rfl⟩))
      | (go_at_call 143; ((with_reducible refine HSX.out.mono ?_); rintro e w' ⟨rfl, rfl⟩))
      | (go_at_call 143; ((with_reducible refine HSY.out.mono ?_); rintro e w' ⟨rfl, rfl⟩))
      | (go_at_call 231; refine HD.out.mono ?_; rintro e w1 ⟨rfl, hB1⟩))
    | go_values | go_skip | go_guarded | go_step | go_upon | go_back | dsimp only)
  go_ret2
  exact div_post rfl rfl hB1
set_option maxRecDepth 100000 in
set_option maxHeartbeats 1600000 in
theorem RBin_16 (n : Nat) (hn : Okn n) (a b : Nat) (ha : a < 18446744073709551616) (hb : b < 18446744073709551616) (w : World) :
    Calls Tryz.prog 151 #[.int .i64 n, .int .i64 16, .int .u64 a, .int .u64 b] w (DivPost w (binR n 16 (a % 2 ^ n) (b % 2 ^ n))) := by
  obtain ⟨h1, h2, h3, h4⟩ := pow_lt64 hn
  have hn8 := hn.le
  have HK := hid (Right_yes n hn w)
  have HX := hid (Cut_any n hn a ha w)
  have HY := hid (Cut_any n hn b hb w)
  obtain ⟨x, hx⟩ : ∃ x : Nat, x = a % 2 ^ n := ⟨_, rfl⟩
  obtain ⟨y, hy⟩ : ∃ y : Nat, y = b % 2 ^ n := ⟨_, rfl⟩
  have hxl : x < 2 ^ n := by rw [hx]; exact Nat.mod_lt _ (Nat.two_pow_pos n)
  have hyl : y < 2 ^ n := by rw [hy]; exact Nat.mod_lt _ (Nat.two_pow_pos n)
  have HSX := hid (RSigned_cut n hn x hxl w)
  have HSY := hid (RSigned_cut n hn y hyl w)
  rw [← hx] at HX
  rw [← hy] at HY
  rw [← hx, ← hy]
  obtain ⟨k, hk⟩ : ∃ k : Nat, k = y % n := ⟨_, rfl⟩
  have hkn : k < n := by rw [hk]; exact Nat.mod_lt _ (by omega)
  have hkk : (y : Int) % (n : Int) = (k : Int) := by rw [hk]; simp
  have hnw := wrap_nat (show n < 18446744073709551616 by omega)
  have hn0 : 0 < (n : Int) := by omega
  have hk64 : k ≤ 63 := by omega
  clear hx hy ha hb
  have hs : (binR n 16 x y).2 = 0 := rfl
  have HD := hid (held_any n hn 16 (by decide) (by decide) x y hxl hyl w)
  obtain ⟨s, h5⟩ : ∃ s : Nat, s = (binR n 16 x y).1 := ⟨_, rfl⟩
  rw [← h5] at HD
  have H5 := hid (And.intro h5 hs)
  obtain ⟨sx, hsx⟩ : ∃ s, s = sg n x := ⟨_, rfl⟩
  obtain ⟨sy, hsy⟩ : ∃ s, s = sg n y := ⟨_, rfl⟩
  rw [← hsx] at HSX HD
  rw [← hsy] at HSY HD
  clear h1 h2 h3 h4 h5 hn hxl hyl hs hsx hsy hk hn8
  go_enter Tryz.func151, Tryz.ntmps151
  repeat' (first
    | (with_reducible refine wp_exit ?_; repeat (first | with_reducible refine ex_norm ?_ | with_reducible refine ex_then ?_ | with_reducible refine ex_here ?_ | with_reducible refine ex_pass rfl ?_))
    | (go_big_may; first
      | (go_at_call 196; refine HK.out.mono ?_; rintro e w' ⟨rfl, rfl⟩)
      | (go_at_call 81; ((with_reducible refine HX.out.mono ?_); rintro e w' ⟨rfl, rfl⟩))
      | (go_at_call 81; ((with_reducible refine HY.out.mono ?_); rintro e w' ⟨rfl, rfl⟩))
      | (go_at_call 143; ((with_reducible refine HSX.out.mono ?_); rintro e w' ⟨rfl, rfl⟩))
      | (go_at_call 143; ((with_reducible refine HSY.out.mono ?_); rintro e w' ⟨rfl, rfl⟩))
      | (go_at_call 232; refine HD.out.mono ?_; rintro e w' ⟨rfl, rfl⟩))
    | go_values | go_skip | go_guarded | go_step | go_upon | go_back | dsimp only)
  go_ret2
  exact div_post (by rw [H5.out.1]) (by rw [H5.out.2]; rfl) (Below.refl _ _)
set_option maxRecDepth 100000 in
set_option maxHeartbeats 1600000 in
theorem RBin_17 (n : Nat) (hn : Okn n) (a b : Nat) (ha : a < 18446744073709551616) (hb : b < 18446744073709551616) (w : World) :
    Calls Tryz.prog 151 #[.int .i64 n, .int .i64 17, .int .u64 a, .int .u64 b] w (DivPost w (binR n 17 (a % 2 ^ n) (b % 2 ^ n))) := by
  obtain ⟨h1, h2, h3, h4⟩ := pow_lt64 hn
  have hn8 := hn.le
  have HK := hid (Right_yes n hn w)
  have HX := hid (Cut_any n hn a ha w)
  have HY := hid (Cut_any n hn b hb w)
  obtain ⟨x, hx⟩ : ∃ x : Nat, x = a % 2 ^ n := ⟨_, rfl⟩
  obtain ⟨y, hy⟩ : ∃ y : Nat, y = b % 2 ^ n := ⟨_, rfl⟩
  have hxl : x < 2 ^ n := by rw [hx]; exact Nat.mod_lt _ (Nat.two_pow_pos n)
  have hyl : y < 2 ^ n := by rw [hy]; exact Nat.mod_lt _ (Nat.two_pow_pos n)
  have HSX := hid (RSigned_cut n hn x hxl w)
  have HSY := hid (RSigned_cut n hn y hyl w)
  rw [← hx] at HX
  rw [← hy] at HY
  rw [← hx, ← hy]
  obtain ⟨k, hk⟩ : ∃ k : Nat, k = y % n := ⟨_, rfl⟩
  have hkn : k < n := by rw [hk]; exact Nat.mod_lt _ (by omega)
  have hkk : (y : Int) % (n : Int) = (k : Int) := by rw [hk]; simp
  have hnw := wrap_nat (show n < 18446744073709551616 by omega)
  have hn0 : 0 < (n : Int) := by omega
  have hk64 : k ≤ 63 := by omega
  clear hx hy ha hb
  have hs : (binR n 17 x y).2 = 0 := rfl
  have HD := hid (held_any n hn 17 (by decide) (by decide) x y hxl hyl w)
  obtain ⟨s, h5⟩ : ∃ s : Nat, s = (binR n 17 x y).1 := ⟨_, rfl⟩
  rw [← h5] at HD
  have H5 := hid (And.intro h5 hs)
  obtain ⟨sx, hsx⟩ : ∃ s, s = sg n x := ⟨_, rfl⟩
  obtain ⟨sy, hsy⟩ : ∃ s, s = sg n y := ⟨_, rfl⟩
  rw [← hsx] at HSX HD
  rw [← hsy] at HSY HD
  clear h1 h2 h3 h4 h5 hn hxl hyl hs hsx hsy hk hn8
  go_enter Tryz.func151, Tryz.ntmps151
  repeat' (first
    | (with_reducible refine wp_exit ?_; repeat (first | with_reducible refine ex_norm ?_ | with_reducible refine ex_then ?_ | with_reducible refine ex_here ?_ | with_reducible refine ex_pass rfl ?_))
    | (go_big_may; first
      | (go_at_call 196; refine HK.out.mono ?_; rintro e w' ⟨rfl, rfl⟩)
      | (go_at_call 81; ((with_reducible refine HX.out.mono ?_); rintro e w' ⟨rfl, rfl⟩))
      | (go_at_call 81; ((with_reducible refine HY.out.mono ?_); rintro e w' ⟨rfl, rfl⟩))
      | (go_at_call 143; ((with_reducible refine HSX.out.mono ?_); rintro e w' ⟨rfl, rfl⟩))
      | (go_at_call 143; ((with_reducible refine HSY.out.mono ?_); rintro e w' ⟨rfl, rfl⟩))
      | (go_at_call 232; refine HD.out.mono ?_; rintro e w' ⟨rfl, rfl⟩))
    | go_values | go_skip | go_guarded | go_step | go_upon | go_back | dsimp only)
  go_ret2
  exact div_post (by rw [H5.out.1]) (by rw [H5.out.2]; rfl) (Below.refl _ _)
set_option maxRecDepth 100000 in
set_option maxHeartbeats 1600000 in
theorem RBin_18 (n : Nat) (hn : Okn n) (a b : Nat) (ha : a < 18446744073709551616) (hb : b < 18446744073709551616) (w : World) :
    Calls Tryz.prog 151 #[.int .i64 n, .int .i64 18, .int .u64 a, .int .u64 b] w (DivPost w (binR n 18 (a % 2 ^ n) (b % 2 ^ n))) := by
  obtain ⟨h1, h2, h3, h4⟩ := pow_lt64 hn
  have hn8 := hn.le
  have HK := hid (Right_yes n hn w)
  have HX := hid (Cut_any n hn a ha w)
  have HY := hid (Cut_any n hn b hb w)
  obtain ⟨x, hx⟩ : ∃ x : Nat, x = a % 2 ^ n := ⟨_, rfl⟩
  obtain ⟨y, hy⟩ : ∃ y : Nat, y = b % 2 ^ n := ⟨_, rfl⟩
  have hxl : x < 2 ^ n := by rw [hx]; exact Nat.mod_lt _ (Nat.two_pow_pos n)
  have hyl : y < 2 ^ n := by rw [hy]; exact Nat.mod_lt _ (Nat.two_pow_pos n)
  have HSX := hid (RSigned_cut n hn x hxl w)
  have HSY := hid (RSigned_cut n hn y hyl w)
  rw [← hx] at HX
  rw [← hy] at HY
  rw [← hx, ← hy]
  obtain ⟨k, hk⟩ : ∃ k : Nat, k = y % n := ⟨_, rfl⟩
  have hkn : k < n := by rw [hk]; exact Nat.mod_lt _ (by omega)
  have hkk : (y : Int) % (n : Int) = (k : Int) := by rw [hk]; simp
  have hnw := wrap_nat (show n < 18446744073709551616 by omega)
  have hn0 : 0 < (n : Int) := by omega
  have hk64 : k ≤ 63 := by omega
  clear hx hy ha hb
  have hs : (binR n 18 x y).2 = 0 := rfl
  have HD := hid (held_any n hn 18 (by decide) (by decide) x y hxl hyl w)
  obtain ⟨s, h5⟩ : ∃ s : Nat, s = (binR n 18 x y).1 := ⟨_, rfl⟩
  rw [← h5] at HD
  have H5 := hid (And.intro h5 hs)
  obtain ⟨sx, hsx⟩ : ∃ s, s = sg n x := ⟨_, rfl⟩
  obtain ⟨sy, hsy⟩ : ∃ s, s = sg n y := ⟨_, rfl⟩
  rw [← hsx] at HSX HD
  rw [← hsy] at HSY HD
  clear h1 h2 h3 h4 h5 hn hxl hyl hs hsx hsy hk hn8
  go_enter Tryz.func151, Tryz.ntmps151
  repeat' (first
    | (with_reducible refine wp_exit ?_; repeat (first | with_reducible refine ex_norm ?_ | with_reducible refine ex_then ?_ | with_reducible refine ex_here ?_ | with_reducible refine ex_pass rfl ?_))
    | (go_big_may; first
      | (go_at_call 196; refine HK.out.mono ?_; rintro e w' ⟨rfl, rfl⟩)
      | (go_at_call 81; ((with_reducible refine HX.out.mono ?_); rintro e w' ⟨rfl, rfl⟩))
      | (go_at_call 81; ((with_reducible refine HY.out.mono ?_); rintro e w' ⟨rfl, rfl⟩))
      | (go_at_call 143; ((with_reducible refine HSX.out.mono ?_); rintro e w' ⟨rfl, rfl⟩))
      | (go_at_call 143; ((with_reducible refine HSY.out.mono ?_); rintro e w' ⟨rfl, rfl⟩))
      | (go_at_call 232; refine HD.out.mono ?_; rintro e w' ⟨rfl, rfl⟩))
    | go_values | go_skip | go_guarded | go_step | go_upon | go_back | dsimp only)
  go_ret2
  exact div_post (by rw [H5.out.1]) (by rw [H5.out.2]; rfl) (Below.refl _ _)
set_option maxRecDepth 100000 in
set_option maxHeartbeats 1600000 in
theorem RBin_19 (n : Nat) (hn : Okn n) (a b : Nat) (ha : a < 18446744073709551616) (hb : b < 18446744073709551616) (w : World) :
    Calls Tryz.prog 151 #[.int .i64 n, .int .i64 19, .int .u64 a, .int .u64 b] w (DivPost w (binR n 19 (a % 2 ^ n) (b % 2 ^ n))) := by
  obtain ⟨h1, h2, h3, h4⟩ := pow_lt64 hn
  have hn8 := hn.le
  have HK := hid (Right_yes n hn w)
  have HX := hid (Cut_any n hn a ha w)
  have HY := hid (Cut_any n hn b hb w)
  obtain ⟨x, hx⟩ : ∃ x : Nat, x = a % 2 ^ n := ⟨_, rfl⟩
  obtain ⟨y, hy⟩ : ∃ y : Nat, y = b % 2 ^ n := ⟨_, rfl⟩
  have hxl : x < 2 ^ n := by rw [hx]; exact Nat.mod_lt _ (Nat.two_pow_pos n)
  have hyl : y < 2 ^ n := by rw [hy]; exact Nat.mod_lt _ (Nat.two_pow_pos n)
  have HSX := hid (RSigned_cut n hn x hxl w)
  have HSY := hid (RSigned_cut n hn y hyl w)
  rw [← hx] at HX
  rw [← hy] at HY
  rw [← hx, ← hy]
  obtain ⟨k, hk⟩ : ∃ k : Nat, k = y % n := ⟨_, rfl⟩
  have hkn : k < n := by rw [hk]; exact Nat.mod_lt _ (by omega)
  have hkk : (y : Int) % (n : Int) = (k : Int) := by rw [hk]; simp
  have hnw := wrap_nat (show n < 18446744073709551616 by omega)
  have hn0 : 0 < (n : Int) := by omega
  have hk64 : k ≤ 63 := by omega
  clear hx hy ha hb
  have hs : (binR n 19 x y).2 = 0 := rfl
  have HD := hid (held_any n hn 19 (by decide) (by decide) x y hxl hyl w)
  obtain ⟨s, h5⟩ : ∃ s : Nat, s = (binR n 19 x y).1 := ⟨_, rfl⟩
  rw [← h5] at HD
  have H5 := hid (And.intro h5 hs)
  obtain ⟨sx, hsx⟩ : ∃ s, s = sg n x := ⟨_, rfl⟩
  obtain ⟨sy, hsy⟩ : ∃ s, s = sg n y := ⟨_, rfl⟩
  rw [← hsx] at HSX HD
  rw [← hsy] at HSY HD
  clear h1 h2 h3 h4 h5 hn hxl hyl hs hsx hsy hk hn8
  go_enter Tryz.func151, Tryz.ntmps151
  repeat' (first
    | (with_reducible refine wp_exit ?_; repeat (first | with_reducible refine ex_norm ?_ | with_reducible refine ex_then ?_ | with_reducible refine ex_here ?_ | with_reducible refine ex_pass rfl ?_))
    | (go_big_may; first
      | (go_at_call 196; refine HK.out.mono ?_; rintro e w' ⟨rfl, rfl⟩)
      | (go_at_call 81; ((with_reducible refine HX.out.mono ?_); rintro e w' ⟨rfl, rfl⟩))
      | (go_at_call 81; ((with_reducible refine HY.out.mono ?_); rintro e w' ⟨rfl, rfl⟩))
      | (go_at_call 143; ((with_reducible refine HSX.out.mono ?_); rintro e w' ⟨rfl, rfl⟩))
      | (go_at_call 143; ((with_reducible refine HSY.out.mono ?_); rintro e w' ⟨rfl, rfl⟩))
      | (go_at_call 232; refine HD.out.mono ?_; rintro e w' ⟨rfl, rfl⟩))
    | go_values | go_skip | go_guarded | go_step | go_upon | go_back | dsimp only)
  go_ret2
  exact div_post (by rw [H5.out.1]) (by rw [H5.out.2]; rfl) (Below.refl _ _)
set_option maxRecDepth 100000 in
set_option maxHeartbeats 1600000 in
theorem RBin_20 (n : Nat) (hn : Okn n) (a b : Nat) (ha : a < 18446744073709551616) (hb : b < 18446744073709551616) (w : World) :
    Calls Tryz.prog 151 #[.int .i64 n, .int .i64 20, .int .u64 a, .int .u64 b] w (DivPost w (binR n 20 (a % 2 ^ n) (b % 2 ^ n))) := by
  obtain ⟨h1, h2, h3, h4⟩ := pow_lt64 hn
  have hn8 := hn.le
  have HK := hid (Right_yes n hn w)
  have HX := hid (Cut_any n hn a ha w)
  have HY := hid (Cut_any n hn b hb w)
  obtain ⟨x, hx⟩ : ∃ x : Nat, x = a % 2 ^ n := ⟨_, rfl⟩
  obtain ⟨y, hy⟩ : ∃ y : Nat, y = b % 2 ^ n := ⟨_, rfl⟩
  have hxl : x < 2 ^ n := by rw [hx]; exact Nat.mod_lt _ (Nat.two_pow_pos n)
  have hyl : y < 2 ^ n := by rw [hy]; exact Nat.mod_lt _ (Nat.two_pow_pos n)
  have HSX := hid (RSigned_cut n hn x hxl w)
  have HSY := hid (RSigned_cut n hn y hyl w)
  rw [← hx] at HX
  rw [← hy] at HY
  rw [← hx, ← hy]
  obtain ⟨k, hk⟩ : ∃ k : Nat, k = y % n := ⟨_, rfl⟩
  have hkn : k < n := by rw [hk]; exact Nat.mod_lt _ (by omega)
  have hkk : (y : Int) % (n : Int) = (k : Int) := by rw [hk]; simp
  have hnw := wrap_nat (show n < 18446744073709551616 by omega)
  have hn0 : 0 < (n : Int) := by omega
  have hk64 : k ≤ 63 := by omega
  clear hx hy ha hb
  have hs : (binR n 20 x y).2 = 0 := rfl
  have HD := hid (held_any n hn 20 (by decide) (by decide) x y hxl hyl w)
  obtain ⟨s, h5⟩ : ∃ s : Nat, s = (binR n 20 x y).1 := ⟨_, rfl⟩
  rw [← h5] at HD
  have H5 := hid (And.intro h5 hs)
  obtain ⟨sx, hsx⟩ : ∃ s, s = sg n x := ⟨_, rfl⟩
  obtain ⟨sy, hsy⟩ : ∃ s, s = sg n y := ⟨_, rfl⟩
  rw [← hsx] at HSX HD
  rw [← hsy] at HSY HD
  clear h1 h2 h3 h4 h5 hn hxl hyl hs hsx hsy hk hn8
  go_enter Tryz.func151, Tryz.ntmps151
  repeat' (first
    | (with_reducible refine wp_exit ?_; repeat (first | with_reducible refine ex_norm ?_ | with_reducible refine ex_then ?_ | with_reducible refine ex_here ?_ | with_reducible refine ex_pass rfl ?_))
    | (go_big_may; first
      | (go_at_call 196; refine HK.out.mono ?_; rintro e w' ⟨rfl, rfl⟩)
      | (go_at_call 81; ((with_reducible refine HX.out.mono ?_); rintro e w' ⟨rfl, rfl⟩))
      | (go_at_call 81; ((with_reducible refine HY.out.mono ?_); rintro e w' ⟨rfl, rfl⟩))
      | (go_at_call 143; ((with_reducible refine HSX.out.mono ?_); rintro e w' ⟨rfl, rfl⟩))
      | (go_at_call 143; ((with_reducible refine HSY.out.mono ?_); rintro e w' ⟨rfl, rfl⟩))
      | (go_at_call 232; refine HD.out.mono ?_; rintro e w' ⟨rfl, rfl⟩))
    | go_values | go_skip | go_guarded | go_step | go_upon | go_back | dsimp only)
  go_ret2
  exact div_post (by rw [H5.out.1]) (by rw [H5.out.2]; rfl) (Below.refl _ _)
set_option maxRecDepth 100000 in
set_option maxHeartbeats 1600000 in
theorem RBin_21 (n : Nat) (hn : Okn n) (a b : Nat) (ha : a < 18446744073709551616) (hb : b < 18446744073709551616) (w : World) :
    Calls Tryz.prog 151 #[.int .i64 n, .int .i64 21, .int .u64 a, .int .u64 b] w (DivPost w (binR n 21 (a % 2 ^ n) (b % 2 ^ n))) := by
  obtain ⟨h1, h2, h3, h4⟩ := pow_lt64 hn
  have hn8 := hn.le
  have HK := hid (Right_yes n hn w)
  have HX := hid (Cut_any n hn a ha w)
  have HY := hid (Cut_any n hn b hb w)
  obtain ⟨x, hx⟩ : ∃ x : Nat, x = a % 2 ^ n := ⟨_, rfl⟩
  obtain ⟨y, hy⟩ : ∃ y : Nat, y = b % 2 ^ n := ⟨_, rfl⟩
  have hxl : x < 2 ^ n := by rw [hx]; exact Nat.mod_lt _ (Nat.two_pow_pos n)
  have hyl : y < 2 ^ n := by rw [hy]; exact Nat.mod_lt _ (Nat.two_pow_pos n)
  have HSX := hid (RSigned_cut n hn x hxl w)
  have HSY := hid (RSigned_cut n hn y hyl w)
  rw [← hx] at HX
  rw [← hy] at HY
  rw [← hx, ← hy]
  obtain ⟨k, hk⟩ : ∃ k : Nat, k = y % n := ⟨_, rfl⟩
  have hkn : k < n := by rw [hk]; exact Nat.mod_lt _ (by omega)
  have hkk : (y : Int) % (n : Int) = (k : Int) := by rw [hk]; simp
  have hnw := wrap_nat (show n < 18446744073709551616 by omega)
  have hn0 : 0 < (n : Int) := by omega
  have hk64 : k ≤ 63 := by omega
  clear hx hy ha hb
  have hs : (binR n 21 x y).2 = 0 := rfl
  have HD := hid (held_any n hn 21 (by decide) (by decide) x y hxl hyl w)
  obtain ⟨s, h5⟩ : ∃ s : Nat, s = (binR n 21 x y).1 := ⟨_, rfl⟩
  rw [← h5] at HD
  have H5 := hid (And.intro h5 hs)
  obtain ⟨sx, hsx⟩ : ∃ s, s = sg n x := ⟨_, rfl⟩
  obtain ⟨sy, hsy⟩ : ∃ s, s = sg n y := ⟨_, rfl⟩
  rw [← hsx] at HSX HD
  rw [← hsy] at HSY HD
  clear h1 h2 h3 h4 h5 hn hxl hyl hs hsx hsy hk hn8
  go_enter Tryz.func151, Tryz.ntmps151
  repeat' (first
    | (with_reducible refine wp_exit ?_; repeat (first | with_reducible refine ex_norm ?_ | with_reducible refine ex_then ?_ | with_reducible refine ex_here ?_ | with_reducible refine ex_pass rfl ?_))
    | (go_big_may; first
      | (go_at_call 196; refine HK.out.mono ?_; rintro e w' ⟨rfl, rfl⟩)
      | (go_at_call 81; ((with_reducible refine HX.out.mono ?_); rintro e w' ⟨rfl, rfl⟩))
      | (go_at_call 81; ((with_reducible refine HY.out.mono ?_); rintro e w' ⟨rfl, rfl⟩))
      | (go_at_call 143; ((with_reducible refine HSX.out.mono ?_); rintro e w' ⟨rfl, rfl⟩))
      | (go_at_call 143; ((with_reducible refine HSY.out.mono ?_); rintro e w' ⟨rfl, rfl⟩))
      | (go_at_call 232; refine HD.out.mono ?_; rintro e w' ⟨rfl, rfl⟩))
    | go_values | go_skip | go_guarded | go_step | go_upon | go_back | dsimp only)
  go_ret2
  exact div_post (by rw [H5.out.1]) (by rw [H5.out.2]; rfl) (Below.refl _ _)
set_option maxRecDepth 100000 in
set_option maxHeartbeats 1600000 in
theorem RBin_22 (n : Nat) (hn : Okn n) (a b : Nat) (ha : a < 18446744073709551616) (hb : b < 18446744073709551616) (w : World) :
    Calls Tryz.prog 151 #[.int .i64 n, .int .i64 22, .int .u64 a, .int .u64 b] w (DivPost w (binR n 22 (a % 2 ^ n) (b % 2 ^ n))) := by
  obtain ⟨h1, h2, h3, h4⟩ := pow_lt64 hn
  have hn8 := hn.le
  have HK := hid (Right_yes n hn w)
  have HX := hid (Cut_any n hn a ha w)
  have HY := hid (Cut_any n hn b hb w)
  obtain ⟨x, hx⟩ : ∃ x : Nat, x = a % 2 ^ n := ⟨_, rfl⟩
  obtain ⟨y, hy⟩ : ∃ y : Nat, y = b % 2 ^ n := ⟨_, rfl⟩
  have hxl : x < 2 ^ n := by rw [hx]; exact Nat.mod_lt _ (Nat.two_pow_pos n)
  have hyl : y < 2 ^ n := by rw [hy]; exact Nat.mod_lt _ (Nat.two_pow_pos n)
  have HSX := hid (RSigned_cut n hn x hxl w)
  have HSY := hid (RSigned_cut n hn y hyl w)
  rw [← hx] at HX
  rw [← hy] at HY
  rw [← hx, ← hy]
  obtain ⟨k, hk⟩ : ∃ k : Nat, k = y % n := ⟨_, rfl⟩
  have hkn : k < n := by rw [hk]; exact Nat.mod_lt _ (by omega)
  have hkk : (y : Int) % (n : Int) = (k : Int) := by rw [hk]; simp
  have hnw := wrap_nat (show n < 18446744073709551616 by omega)
  have hn0 : 0 < (n : Int) := by omega
  have hk64 : k ≤ 63 := by omega
  clear hx hy ha hb
  have hs : (binR n 22 x y).2 = 0 := rfl
  have HD := hid (held_any n hn 22 (by decide) (by decide) x y hxl hyl w)
  obtain ⟨s, h5⟩ : ∃ s : Nat, s = (binR n 22 x y).1 := ⟨_, rfl⟩
  rw [← h5] at HD
  have H5 := hid (And.intro h5 hs)
  obtain ⟨sx, hsx⟩ : ∃ s, s = sg n x := ⟨_, rfl⟩
  obtain ⟨sy, hsy⟩ : ∃ s, s = sg n y := ⟨_, rfl⟩
  rw [← hsx] at HSX HD
  rw [← hsy] at HSY HD
  clear h1 h2 h3 h4 h5 hn hxl hyl hs hsx hsy hk hn8
  go_enter Tryz.func151, Tryz.ntmps151
  repeat' (first
    | (with_reducible refine wp_exit ?_; repeat (first | with_reducible refine ex_norm ?_ | with_reducible refine ex_then ?_ | with_reducible refine ex_here ?_ | with_reducible refine ex_pass rfl ?_))
    | (go_big_may; first
      | (go_at_call 196; refine HK.out.mono ?_; rintro e w' ⟨rfl, rfl⟩)
      | (go_at_call 81; ((with_reducible refine HX.out.mono ?_); rintro e w' ⟨rfl, rfl⟩))
      | (go_at_call 81; ((with_reducible refine HY.out.mono ?_); rintro e w' ⟨rfl, rfl⟩))
      | (go_at_call 143; ((with_reducible refine HSX.out.mono ?_); rintro e w' ⟨rfl, rfl⟩))
      | (go_at_call 143; ((with_reducible refine HSY.out.mono ?_); rintro e w' ⟨rfl, rfl⟩))
      | (go_at_call 232; refine HD.out.mono ?_; rintro e w' ⟨rfl, rfl⟩))
    | go_values | go_skip | go_guarded | go_step | go_upon | go_back | dsimp only)
  go_ret2
  exact div_post (by rw [H5.out.1]) (by rw [H5.out.2]; rfl) (Below.refl _ _)
set_option maxRecDepth 100000 in
set_option maxHeartbeats 1600000 in
theorem RBin_23 (n : Nat) (hn : Okn n) (a b : Nat) (ha : a < 18446744073709551616) (hb : b < 18446744073709551616) (w : World) :
    Calls Tryz.prog 151 #[.int .i64 n, .int .i64 23, .int .u64 a, .int .u64 b] w (DivPost w (binR n 23 (a % 2 ^ n) (b % 2 ^ n))) := by
  obtain ⟨h1, h2, h3, h4⟩ := pow_lt64 hn
  have hn8 := hn.le
  have HK := hid (Right_yes n hn w)
  have HX := hid (Cut_any n hn a ha w)
  have HY := hid (Cut_any n hn b hb w)
  obtain ⟨x, hx⟩ : ∃ x : Nat, x = a % 2 ^ n := ⟨_, rfl⟩
  obtain ⟨y, hy⟩ : ∃ y : Nat, y = b % 2 ^ n := ⟨_, rfl⟩
  have hxl : x < 2 ^ n := by rw [hx]; exact Nat.mod_lt _ (Nat.two_pow_pos n)
  have hyl : y < 2 ^ n := by rw [hy]; exact Nat.mod_lt _ (Nat.two_pow_pos n)
  have HSX := hid (RSigned_cut n hn x hxl w)
  have HSY := hid (RSigned_cut n hn y hyl w)
  rw [← hx] at HX
  rw [← hy] at HY
  rw [← hx, ← hy]
  obtain ⟨k, hk⟩ : ∃ k : Nat, k = y % n := ⟨_, rfl⟩
  have hkn : k < n := by rw [hk]; exact Nat.mod_lt _ (by omega)
  have hkk : (y : Int) % (n : Int) = (k : Int) := by rw [hk]; simp
  have hnw := wrap_nat (show n < 18446744073709551616 by omega)
  have hn0 : 0 < (n : Int) := by omega
  have hk64 : k ≤ 63 := by omega
  clear hx hy ha hb
  have hs : (binR n 23 x y).2 = 0 := rfl
  have HD := hid (held_any n hn 23 (by decide) (by decide) x y hxl hyl w)
  obtain ⟨s, h5⟩ : ∃ s : Nat, s = (binR n 23 x y).1 := ⟨_, rfl⟩
  rw [← h5] at HD
  have H5 := hid (And.intro h5 hs)
  obtain ⟨sx, hsx⟩ : ∃ s, s = sg n x := ⟨_, rfl⟩
  obtain ⟨sy, hsy⟩ : ∃ s, s = sg n y := ⟨_, rfl⟩
  rw [← hsx] at HSX HD
  rw [← hsy] at HSY HD
  clear h1 h2 h3 h4 h5 hn hxl hyl hs hsx hsy hk hn8
  go_enter Tryz.func151, Tryz.ntmps151
  repeat' (first
    | (with_reducible refine wp_exit ?_; repeat (first | with_reducible refine ex_norm ?_ | with_reducible refine ex_then ?_ | with_reducible refine ex_here ?_ | with_reducible refine ex_pass rfl ?_))
    | (go_big_may; first
      | (go_at_call 196; refine HK.out.mono ?_; rintro e w' ⟨rfl, rfl⟩)
      | (go_at_call 81; ((with_reducible refine HX.out.mono ?_); rintro e w' ⟨rfl, rfl⟩))
      | (go_at_call 81; ((with_reducible refine HY.out.mono ?_); rintro e w' ⟨rfl, rfl⟩))
      | (go_at_call 143; ((with_reducible refine HSX.out.mono ?_); rintro e w' ⟨rfl, rfl⟩))
      | (go_at_call 143; ((with_reducible refine HSY.out.mono ?_); rintro e w' ⟨rfl, rfl⟩))
      | (go_at_call 232; refine HD.out.mono ?_; rintro e w' ⟨rfl, rfl⟩))
    | go_values | go_skip | go_guarded | go_step | go_upon | go_back | dsimp only)
  go_ret2
  exact div_post (by rw [H5.out.1]) (by rw [H5.out.2]; rfl) (Below.refl _ _)
set_option maxRecDepth 100000 in
set_option maxHeartbeats 1600000 in
theorem RBin_24 (n : Nat) (hn : Okn n) (a b : Nat) (ha : a < 18446744073709551616) (hb : b < 18446744073709551616) (w : World) :
    Calls Tryz.prog 151 #[.int .i64 n, .int .i64 24, .int .u64 a, .int .u64 b] w (DivPost w (binR n 24 (a % 2 ^ n) (b % 2 ^ n))) := by
  obtain ⟨h1, h2, h3, h4⟩ := pow_lt64 hn
  have hn8 := hn.le
  have HK := hid (Right_yes n hn w)
  have HX := hid (Cut_any n hn a ha w)
  have HY := hid (Cut_any n hn b hb w)
  obtain ⟨x, hx⟩ : ∃ x : Nat, x = a % 2 ^ n := ⟨_, rfl⟩
  obtain ⟨y, hy⟩ : ∃ y : Nat, y = b % 2 ^ n := ⟨_, rfl⟩
  have hxl : x < 2 ^ n := by rw [hx]; exact Nat.mod_lt _ (Nat.two_pow_pos n)
  have hyl : y < 2 ^ n := by rw [hy]; exact Nat.mod_lt _ (Nat.two_pow_pos n)
  have HSX := hid (RSigned_cut n hn x hxl w)
  have HSY := hid (RSigned_cut n hn y hyl w)
  rw [← hx] at HX
  rw [← hy] at HY
  rw [← hx, ← hy]
  obtain ⟨k, hk⟩ : ∃ k : Nat, k = y % n := ⟨_, rfl⟩
  have hkn : k < n := by rw [hk]; exact Nat.mod_lt _ (by omega)
  have hkk : (y : Int) % (n : Int) = (k : Int) := by rw [hk]; simp
  have hnw := wrap_nat (show n < 18446744073709551616 by omega)
  have hn0 : 0 < (n : Int) := by omega
  have hk64 : k ≤ 63 := by omega
  clear hx hy ha hb
  have hs : (binR n 24 x y).2 = 0 := rfl
  have HD := hid (held_any n hn 24 (by decide) (by decide) x y hxl hyl w)
  obtain ⟨s, h5⟩ : ∃ s : Nat, s = (binR n 24 x y).1 := ⟨_, rfl⟩
  rw [← h5] at HD
  have H5 := hid (And.intro h5 hs)
  obtain ⟨sx, hsx⟩ : ∃ s, s = sg n x := ⟨_, rfl⟩
  obtain ⟨sy, hsy⟩ : ∃ s, s = sg n y := ⟨_, rfl⟩
  rw [← hsx] at HSX HD
  rw [← hsy] at HSY HD
  clear h1 h2 h3 h4 h5 hn hxl hyl hs hsx hsy hk hn8
  go_enter Tryz.func151, Tryz.ntmps151
  repeat' (first
    | (with_reducible refine wp_exit ?_; repeat (first | with_reducible refine ex_norm ?_ | with_reducible refine ex_then ?_ | with_reducible refine ex_here ?_ | with_reducible refine ex_pass rfl ?_))
    | (go_big_may; first
      | (go_at_call 196; refine HK.out.mono ?_; rintro e w' ⟨rfl, rfl⟩)
      | (go_at_call 81; ((with_reducible refine HX.out.mono ?_); rintro e w' ⟨rfl, rfl⟩))
      | (go_at_call 81; ((with_reducible refine HY.out.mono ?_); rintro e w' ⟨rfl, rfl⟩))
      | (go_at_call 143; ((with_reducible refine HSX.out.mono ?_); rintro e w' ⟨rfl, rfl⟩))
      | (go_at_call 143; ((with_reducible refine HSY.out.mono ?_); rintro e w' ⟨rfl, rfl⟩))
      | (go_at_call 232; refine HD.out.mono ?_; rintro e w' ⟨rfl, rfl⟩))
    | go_values | go_skip | go_guarded | go_step | go_upon | go_back | dsimp only)
  go_ret2
  exact div_post (by rw [H5.out.1]) (by rw [H5.out.2]; rfl) (Below.refl _ _)
end Go.Proofs.YtlhakbkdlgejpaaGreatDoor
