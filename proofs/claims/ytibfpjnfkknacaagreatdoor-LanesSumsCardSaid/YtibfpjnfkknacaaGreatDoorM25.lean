/-
  Rel: merged (each text says what it holds where it lies in wip). No condition.
-/
import Derived.Test.YtibfpjnfkknacaaGreatDoorM02
set_option linter.unusedSimpArgs false
set_option linter.unusedVariables false
namespace Go.Proofs.YtibfpjnfkknacaaGreatDoor
open Go.RowKit

/-- How two stand, by any operation; the error. -/
def relA (bits op : Int) (a b : Nat) : Bool × Nat :=
  if Okn bits.toNat ∧ 1 ≤ op ∧ op ≤ 10 then (relR bits.toNat op.toNat (a % 2 ^ bits.toNat) (b % 2 ^ bits.toNat), 0) else (false, 1)

theorem ret_bi {k : IntKind} {a b : Bool} {c d : Int} (h : a = b) (h' : c = d) : Ending.returned (.tuple #[.bool a, .int k c]) = .returned (.tuple #[.bool b, .int k d]) := by rw [h, h']

set_option maxHeartbeats 800000 in
theorem Rel_1 (n : Nat) (hn : Okn n) (a b : Nat) (ha : a < 18446744073709551616) (hb : b < 18446744073709551616) (w : World) :
    Calls Tryz.prog 88 #[.int .i64 n, .int .i64 1, .int .u64 a, .int .u64 b] w fun e w' => e = .returned (.tuple #[.bool (relR n 1 (a % 2 ^ n) (b % 2 ^ n)), .int .i64 0]) ∧ w = w' := by
  obtain ⟨h1, h2, h3, h4⟩ := pow_lt64 hn
  have HK := hid (known_yes n hn w)
  have HX := hid (cut_any n hn a ha w)
  have HY := hid (cut_any n hn b hb w)
  have HS := hid (sign_any n hn w)
  obtain ⟨x, hx⟩ : ∃ x : Nat, x = a % 2 ^ n := ⟨_, rfl⟩
  obtain ⟨y, hy⟩ : ∃ y : Nat, y = b % 2 ^ n := ⟨_, rfl⟩
  have hxl : x < 2 ^ n := by rw [hx]; exact Nat.mod_lt _ (Nat.two_pow_pos n)
  have hyl : y < 2 ^ n := by rw [hy]; exact Nat.mod_lt _ (Nat.two_pow_pos n)
  rw [← hx] at HX
  rw [← hy] at HY
  rw [← hx, ← hy]
  have hs : relR n 1 x y = decide (x = y) := by rw [relR, if_pos rfl]
  rw [hs]
  have hxo := xor_turned hn hxl
  have hyo := xor_turned hn hyl
  have ea := turned_sg (a := x) hn
  have eb := turned_sg (a := y) hn
  obtain ⟨S, hS⟩ : ∃ S : Nat, S = 2 ^ (n - 1) := ⟨_, rfl⟩
  obtain ⟨p, hp⟩ : ∃ p : Nat, p = turned n x := ⟨_, rfl⟩
  obtain ⟨q, hq⟩ : ∃ q : Nat, q = turned n y := ⟨_, rfl⟩
  rw [← hS] at HS hxo hyo ea eb
  rw [← hp] at hxo ea
  rw [← hq] at hyo eb
  have HE := hid (And.intro ea eb)
  clear hx hy ha hb h1 h2 h3 h4 hn hxl hyl hs ea eb hS hp hq
  go_enter Tryz.func88, Tryz.ntmps88
  repeat' (first
    | (with_reducible refine wp_exit ?_; repeat (first | with_reducible refine ex_norm ?_ | with_reducible refine ex_then ?_ | with_reducible refine ex_here ?_ | with_reducible refine ex_pass rfl ?_))
    | (go_big_may; first
      | (go_at_call 137; refine HK.out.mono ?_; rintro e w' ⟨rfl, rfl⟩)
      | (go_at_call 138; ((with_reducible refine HX.out.mono ?_); rintro e w' ⟨rfl, rfl⟩))
      | (go_at_call 138; ((with_reducible refine HY.out.mono ?_); rintro e w' ⟨rfl, rfl⟩))
      | (go_at_call 142; refine HS.out.mono ?_; rintro e w' ⟨rfl, rfl⟩))
    | go_values | go_skip | go_guarded | go_step | go_upon | go_back | dsimp only)
  go_ret2
  obtain ⟨ea, eb⟩ := HE.out
  exact ⟨ret_bi (by first | (rw [Bool.eq_iff_iff]; simp; omega) | (rw [Bool.eq_iff_iff]; simp) | rw [Bool.eq_iff_iff]) rfl, rfl⟩

set_option maxHeartbeats 800000 in
theorem Rel_2 (n : Nat) (hn : Okn n) (a b : Nat) (ha : a < 18446744073709551616) (hb : b < 18446744073709551616) (w : World) :
    Calls Tryz.prog 88 #[.int .i64 n, .int .i64 2, .int .u64 a, .int .u64 b] w fun e w' => e = .returned (.tuple #[.bool (relR n 2 (a % 2 ^ n) (b % 2 ^ n)), .int .i64 0]) ∧ w = w' := by
  obtain ⟨h1, h2, h3, h4⟩ := pow_lt64 hn
  have HK := hid (known_yes n hn w)
  have HX := hid (cut_any n hn a ha w)
  have HY := hid (cut_any n hn b hb w)
  have HS := hid (sign_any n hn w)
  obtain ⟨x, hx⟩ : ∃ x : Nat, x = a % 2 ^ n := ⟨_, rfl⟩
  obtain ⟨y, hy⟩ : ∃ y : Nat, y = b % 2 ^ n := ⟨_, rfl⟩
  have hxl : x < 2 ^ n := by rw [hx]; exact Nat.mod_lt _ (Nat.two_pow_pos n)
  have hyl : y < 2 ^ n := by rw [hy]; exact Nat.mod_lt _ (Nat.two_pow_pos n)
  rw [← hx] at HX
  rw [← hy] at HY
  rw [← hx, ← hy]
  have hs : relR n 2 x y = decide (x ≠ y) := by rw [relR, if_neg (by decide), if_pos rfl]
  rw [hs]
  have hxo := xor_turned hn hxl
  have hyo := xor_turned hn hyl
  have ea := turned_sg (a := x) hn
  have eb := turned_sg (a := y) hn
  obtain ⟨S, hS⟩ : ∃ S : Nat, S = 2 ^ (n - 1) := ⟨_, rfl⟩
  obtain ⟨p, hp⟩ : ∃ p : Nat, p = turned n x := ⟨_, rfl⟩
  obtain ⟨q, hq⟩ : ∃ q : Nat, q = turned n y := ⟨_, rfl⟩
  rw [← hS] at HS hxo hyo ea eb
  rw [← hp] at hxo ea
  rw [← hq] at hyo eb
  have HE := hid (And.intro ea eb)
  clear hx hy ha hb h1 h2 h3 h4 hn hxl hyl hs ea eb hS hp hq
  go_enter Tryz.func88, Tryz.ntmps88
  repeat' (first
    | (with_reducible refine wp_exit ?_; repeat (first | with_reducible refine ex_norm ?_ | with_reducible refine ex_then ?_ | with_reducible refine ex_here ?_ | with_reducible refine ex_pass rfl ?_))
    | (go_big_may; first
      | (go_at_call 137; refine HK.out.mono ?_; rintro e w' ⟨rfl, rfl⟩)
      | (go_at_call 138; ((with_reducible refine HX.out.mono ?_); rintro e w' ⟨rfl, rfl⟩))
      | (go_at_call 138; ((with_reducible refine HY.out.mono ?_); rintro e w' ⟨rfl, rfl⟩))
      | (go_at_call 142; refine HS.out.mono ?_; rintro e w' ⟨rfl, rfl⟩))
    | go_values | go_skip | go_guarded | go_step | go_upon | go_back | dsimp only)
  go_ret2
  obtain ⟨ea, eb⟩ := HE.out
  exact ⟨ret_bi (by first | (rw [Bool.eq_iff_iff]; simp; omega) | (rw [Bool.eq_iff_iff]; simp) | rw [Bool.eq_iff_iff]) rfl, rfl⟩

set_option maxHeartbeats 800000 in
theorem Rel_3 (n : Nat) (hn : Okn n) (a b : Nat) (ha : a < 18446744073709551616) (hb : b < 18446744073709551616) (w : World) :
    Calls Tryz.prog 88 #[.int .i64 n, .int .i64 3, .int .u64 a, .int .u64 b] w fun e w' => e = .returned (.tuple #[.bool (relR n 3 (a % 2 ^ n) (b % 2 ^ n)), .int .i64 0]) ∧ w = w' := by
  obtain ⟨h1, h2, h3, h4⟩ := pow_lt64 hn
  have HK := hid (known_yes n hn w)
  have HX := hid (cut_any n hn a ha w)
  have HY := hid (cut_any n hn b hb w)
  have HS := hid (sign_any n hn w)
  obtain ⟨x, hx⟩ : ∃ x : Nat, x = a % 2 ^ n := ⟨_, rfl⟩
  obtain ⟨y, hy⟩ : ∃ y : Nat, y = b % 2 ^ n := ⟨_, rfl⟩
  have hxl : x < 2 ^ n := by rw [hx]; exact Nat.mod_lt _ (Nat.two_pow_pos n)
  have hyl : y < 2 ^ n := by rw [hy]; exact Nat.mod_lt _ (Nat.two_pow_pos n)
  rw [← hx] at HX
  rw [← hy] at HY
  rw [← hx, ← hy]
  have hs : relR n 3 x y = decide (sg n x < sg n y) := by rw [relR, if_neg (by decide), if_neg (by decide), if_pos rfl]
  rw [hs]
  have hxo := xor_turned hn hxl
  have hyo := xor_turned hn hyl
  have ea := turned_sg (a := x) hn
  have eb := turned_sg (a := y) hn
  obtain ⟨S, hS⟩ : ∃ S : Nat, S = 2 ^ (n - 1) := ⟨_, rfl⟩
  obtain ⟨p, hp⟩ : ∃ p : Nat, p = turned n x := ⟨_, rfl⟩
  obtain ⟨q, hq⟩ : ∃ q : Nat, q = turned n y := ⟨_, rfl⟩
  rw [← hS] at HS hxo hyo ea eb
  rw [← hp] at hxo ea
  rw [← hq] at hyo eb
  have HE := hid (And.intro ea eb)
  clear hx hy ha hb h1 h2 h3 h4 hn hxl hyl hs ea eb hS hp hq
  go_enter Tryz.func88, Tryz.ntmps88
  repeat' (first
    | (with_reducible refine wp_exit ?_; repeat (first | with_reducible refine ex_norm ?_ | with_reducible refine ex_then ?_ | with_reducible refine ex_here ?_ | with_reducible refine ex_pass rfl ?_))
    | (go_big_may; first
      | (go_at_call 137; refine HK.out.mono ?_; rintro e w' ⟨rfl, rfl⟩)
      | (go_at_call 138; ((with_reducible refine HX.out.mono ?_); rintro e w' ⟨rfl, rfl⟩))
      | (go_at_call 138; ((with_reducible refine HY.out.mono ?_); rintro e w' ⟨rfl, rfl⟩))
      | (go_at_call 142; refine HS.out.mono ?_; rintro e w' ⟨rfl, rfl⟩))
    | go_values | go_skip | go_guarded | go_step | go_upon | go_back | dsimp only)
  go_ret2
  obtain ⟨ea, eb⟩ := HE.out
  exact ⟨ret_bi (by first | (rw [Bool.eq_iff_iff]; simp; omega) | (rw [Bool.eq_iff_iff]; simp) | rw [Bool.eq_iff_iff]) rfl, rfl⟩

set_option maxHeartbeats 800000 in
theorem Rel_4 (n : Nat) (hn : Okn n) (a b : Nat) (ha : a < 18446744073709551616) (hb : b < 18446744073709551616) (w : World) :
    Calls Tryz.prog 88 #[.int .i64 n, .int .i64 4, .int .u64 a, .int .u64 b] w fun e w' => e = .returned (.tuple #[.bool (relR n 4 (a % 2 ^ n) (b % 2 ^ n)), .int .i64 0]) ∧ w = w' := by
  obtain ⟨h1, h2, h3, h4⟩ := pow_lt64 hn
  have HK := hid (known_yes n hn w)
  have HX := hid (cut_any n hn a ha w)
  have HY := hid (cut_any n hn b hb w)
  have HS := hid (sign_any n hn w)
  obtain ⟨x, hx⟩ : ∃ x : Nat, x = a % 2 ^ n := ⟨_, rfl⟩
  obtain ⟨y, hy⟩ : ∃ y : Nat, y = b % 2 ^ n := ⟨_, rfl⟩
  have hxl : x < 2 ^ n := by rw [hx]; exact Nat.mod_lt _ (Nat.two_pow_pos n)
  have hyl : y < 2 ^ n := by rw [hy]; exact Nat.mod_lt _ (Nat.two_pow_pos n)
  rw [← hx] at HX
  rw [← hy] at HY
  rw [← hx, ← hy]
  have hs : relR n 4 x y = decide (x < y) := by rw [relR, if_neg (by decide), if_neg (by decide), if_neg (by decide), if_pos rfl]
  rw [hs]
  have hxo := xor_turned hn hxl
  have hyo := xor_turned hn hyl
  have ea := turned_sg (a := x) hn
  have eb := turned_sg (a := y) hn
  obtain ⟨S, hS⟩ : ∃ S : Nat, S = 2 ^ (n - 1) := ⟨_, rfl⟩
  obtain ⟨p, hp⟩ : ∃ p : Nat, p = turned n x := ⟨_, rfl⟩
  obtain ⟨q, hq⟩ : ∃ q : Nat, q = turned n y := ⟨_, rfl⟩
  rw [← hS] at HS hxo hyo ea eb
  rw [← hp] at hxo ea
  rw [← hq] at hyo eb
  have HE := hid (And.intro ea eb)
  clear hx hy ha hb h1 h2 h3 h4 hn hxl hyl hs ea eb hS hp hq
  go_enter Tryz.func88, Tryz.ntmps88
  repeat' (first
    | (with_reducible refine wp_exit ?_; repeat (first | with_reducible refine ex_norm ?_ | with_reducible refine ex_then ?_ | with_reducible refine ex_here ?_ | with_reducible refine ex_pass rfl ?_))
    | (go_big_may; first
      | (go_at_call 137; refine HK.out.mono ?_; rintro e w' ⟨rfl, rfl⟩)
      | (go_at_call 138; ((with_reducible refine HX.out.mono ?_); rintro e w' ⟨rfl, rfl⟩))
      | (go_at_call 138; ((with_reducible refine HY.out.mono ?_); rintro e w' ⟨rfl, rfl⟩))
      | (go_at_call 142; refine HS.out.mono ?_; rintro e w' ⟨rfl, rfl⟩))
    | go_values | go_skip | go_guarded | go_step | go_upon | go_back | dsimp only)
  go_ret2
  obtain ⟨ea, eb⟩ := HE.out
  exact ⟨ret_bi (by first | (rw [Bool.eq_iff_iff]; simp; omega) | (rw [Bool.eq_iff_iff]; simp) | rw [Bool.eq_iff_iff]) rfl, rfl⟩

set_option maxHeartbeats 800000 in
theorem Rel_5 (n : Nat) (hn : Okn n) (a b : Nat) (ha : a < 18446744073709551616) (hb : b < 18446744073709551616) (w : World) :
    Calls Tryz.prog 88 #[.int .i64 n, .int .i64 5, .int .u64 a, .int .u64 b] w fun e w' => e = .returned (.tuple #[.bool (relR n 5 (a % 2 ^ n) (b % 2 ^ n)), .int .i64 0]) ∧ w = w' := by
  obtain ⟨h1, h2, h3, h4⟩ := pow_lt64 hn
  have HK := hid (known_yes n hn w)
  have HX := hid (cut_any n hn a ha w)
  have HY := hid (cut_any n hn b hb w)
  have HS := hid (sign_any n hn w)
  obtain ⟨x, hx⟩ : ∃ x : Nat, x = a % 2 ^ n := ⟨_, rfl⟩
  obtain ⟨y, hy⟩ : ∃ y : Nat, y = b % 2 ^ n := ⟨_, rfl⟩
  have hxl : x < 2 ^ n := by rw [hx]; exact Nat.mod_lt _ (Nat.two_pow_pos n)
  have hyl : y < 2 ^ n := by rw [hy]; exact Nat.mod_lt _ (Nat.two_pow_pos n)
  rw [← hx] at HX
  rw [← hy] at HY
  rw [← hx, ← hy]
  have hs : relR n 5 x y = decide (sg n y < sg n x) := by rw [relR, if_neg (by decide), if_neg (by decide), if_neg (by decide), if_neg (by decide), if_pos rfl]
  rw [hs]
  have hxo := xor_turned hn hxl
  have hyo := xor_turned hn hyl
  have ea := turned_sg (a := x) hn
  have eb := turned_sg (a := y) hn
  obtain ⟨S, hS⟩ : ∃ S : Nat, S = 2 ^ (n - 1) := ⟨_, rfl⟩
  obtain ⟨p, hp⟩ : ∃ p : Nat, p = turned n x := ⟨_, rfl⟩
  obtain ⟨q, hq⟩ : ∃ q : Nat, q = turned n y := ⟨_, rfl⟩
  rw [← hS] at HS hxo hyo ea eb
  rw [← hp] at hxo ea
  rw [← hq] at hyo eb
  have HE := hid (And.intro ea eb)
  clear hx hy ha hb h1 h2 h3 h4 hn hxl hyl hs ea eb hS hp hq
  go_enter Tryz.func88, Tryz.ntmps88
  repeat' (first
    | (with_reducible refine wp_exit ?_; repeat (first | with_reducible refine ex_norm ?_ | with_reducible refine ex_then ?_ | with_reducible refine ex_here ?_ | with_reducible refine ex_pass rfl ?_))
    | (go_big_may; first
      | (go_at_call 137; refine HK.out.mono ?_; rintro e w' ⟨rfl, rfl⟩)
      | (go_at_call 138; ((with_reducible refine HX.out.mono ?_); rintro e w' ⟨rfl, rfl⟩))
      | (go_at_call 138; ((with_reducible refine HY.out.mono ?_); rintro e w' ⟨rfl, rfl⟩))
      | (go_at_call 142; refine HS.out.mono ?_; rintro e w' ⟨rfl, rfl⟩))
    | go_values | go_skip | go_guarded | go_step | go_upon | go_back | dsimp only)
  go_ret2
  obtain ⟨ea, eb⟩ := HE.out
  exact ⟨ret_bi (by first | (rw [Bool.eq_iff_iff]; simp; omega) | (rw [Bool.eq_iff_iff]; simp) | rw [Bool.eq_iff_iff]) rfl, rfl⟩

set_option maxHeartbeats 800000 in
theorem Rel_6 (n : Nat) (hn : Okn n) (a b : Nat) (ha : a < 18446744073709551616) (hb : b < 18446744073709551616) (w : World) :
    Calls Tryz.prog 88 #[.int .i64 n, .int .i64 6, .int .u64 a, .int .u64 b] w fun e w' => e = .returned (.tuple #[.bool (relR n 6 (a % 2 ^ n) (b % 2 ^ n)), .int .i64 0]) ∧ w = w' := by
  obtain ⟨h1, h2, h3, h4⟩ := pow_lt64 hn
  have HK := hid (known_yes n hn w)
  have HX := hid (cut_any n hn a ha w)
  have HY := hid (cut_any n hn b hb w)
  have HS := hid (sign_any n hn w)
  obtain ⟨x, hx⟩ : ∃ x : Nat, x = a % 2 ^ n := ⟨_, rfl⟩
  obtain ⟨y, hy⟩ : ∃ y : Nat, y = b % 2 ^ n := ⟨_, rfl⟩
  have hxl : x < 2 ^ n := by rw [hx]; exact Nat.mod_lt _ (Nat.two_pow_pos n)
  have hyl : y < 2 ^ n := by rw [hy]; exact Nat.mod_lt _ (Nat.two_pow_pos n)
  rw [← hx] at HX
  rw [← hy] at HY
  rw [← hx, ← hy]
  have hs : relR n 6 x y = decide (y < x) := by rw [relR, if_neg (by decide), if_neg (by decide), if_neg (by decide), if_neg (by decide), if_neg (by decide), if_pos rfl]
  rw [hs]
  have hxo := xor_turned hn hxl
  have hyo := xor_turned hn hyl
  have ea := turned_sg (a := x) hn
  have eb := turned_sg (a := y) hn
  obtain ⟨S, hS⟩ : ∃ S : Nat, S = 2 ^ (n - 1) := ⟨_, rfl⟩
  obtain ⟨p, hp⟩ : ∃ p : Nat, p = turned n x := ⟨_, rfl⟩
  obtain ⟨q, hq⟩ : ∃ q : Nat, q = turned n y := ⟨_, rfl⟩
  rw [← hS] at HS hxo hyo ea eb
  rw [← hp] at hxo ea
  rw [← hq] at hyo eb
  have HE := hid (And.intro ea eb)
  clear hx hy ha hb h1 h2 h3 h4 hn hxl hyl hs ea eb hS hp hq
  go_enter Tryz.func88, Tryz.ntmps88
  repeat' (first
    | (with_reducible refine wp_exit ?_; repeat (first | with_reducible refine ex_norm ?_ | with_reducible refine ex_then ?_ | with_reducible refine ex_here ?_ | with_reducible refine ex_pass rfl ?_))
    | (go_big_may; first
      | (go_at_call 137; refine HK.out.mono ?_; rintro e w' ⟨rfl, rfl⟩)
      | (go_at_call 138; ((with_reducible refine HX.out.mono ?_); rintro e w' ⟨rfl, rfl⟩))
      | (go_at_call 138; ((with_reducible refine HY.out.mono ?_); rintro e w' ⟨rfl, rfl⟩))
      | (go_at_call 142; refine HS.out.mono ?_; rintro e w' ⟨rfl, rfl⟩))
    | go_values | go_skip | go_guarded | go_step | go_upon | go_back | dsimp only)
  go_ret2
  obtain ⟨ea, eb⟩ := HE.out
  exact ⟨ret_bi (by first | (rw [Bool.eq_iff_iff]; simp; omega) | (rw [Bool.eq_iff_iff]; simp) | rw [Bool.eq_iff_iff]) rfl, rfl⟩

set_option maxHeartbeats 800000 in
theorem Rel_7 (n : Nat) (hn : Okn n) (a b : Nat) (ha : a < 18446744073709551616) (hb : b < 18446744073709551616) (w : World) :
    Calls Tryz.prog 88 #[.int .i64 n, .int .i64 7, .int .u64 a, .int .u64 b] w fun e w' => e = .returned (.tuple #[.bool (relR n 7 (a % 2 ^ n) (b % 2 ^ n)), .int .i64 0]) ∧ w = w' := by
  obtain ⟨h1, h2, h3, h4⟩ := pow_lt64 hn
  have HK := hid (known_yes n hn w)
  have HX := hid (cut_any n hn a ha w)
  have HY := hid (cut_any n hn b hb w)
  have HS := hid (sign_any n hn w)
  obtain ⟨x, hx⟩ : ∃ x : Nat, x = a % 2 ^ n := ⟨_, rfl⟩
  obtain ⟨y, hy⟩ : ∃ y : Nat, y = b % 2 ^ n := ⟨_, rfl⟩
  have hxl : x < 2 ^ n := by rw [hx]; exact Nat.mod_lt _ (Nat.two_pow_pos n)
  have hyl : y < 2 ^ n := by rw [hy]; exact Nat.mod_lt _ (Nat.two_pow_pos n)
  rw [← hx] at HX
  rw [← hy] at HY
  rw [← hx, ← hy]
  have hs : relR n 7 x y = decide (sg n x ≤ sg n y) := by rw [relR, if_neg (by decide), if_neg (by decide), if_neg (by decide), if_neg (by decide), if_neg (by decide), if_neg (by decide), if_pos rfl]
  rw [hs]
  have hxo := xor_turned hn hxl
  have hyo := xor_turned hn hyl
  have ea := turned_sg (a := x) hn
  have eb := turned_sg (a := y) hn
  obtain ⟨S, hS⟩ : ∃ S : Nat, S = 2 ^ (n - 1) := ⟨_, rfl⟩
  obtain ⟨p, hp⟩ : ∃ p : Nat, p = turned n x := ⟨_, rfl⟩
  obtain ⟨q, hq⟩ : ∃ q : Nat, q = turned n y := ⟨_, rfl⟩
  rw [← hS] at HS hxo hyo ea eb
  rw [← hp] at hxo ea
  rw [← hq] at hyo eb
  have HE := hid (And.intro ea eb)
  clear hx hy ha hb h1 h2 h3 h4 hn hxl hyl hs ea eb hS hp hq
  go_enter Tryz.func88, Tryz.ntmps88
  repeat' (first
    | (with_reducible refine wp_exit ?_; repeat (first | with_reducible refine ex_norm ?_ | with_reducible refine ex_then ?_ | with_reducible refine ex_here ?_ | with_reducible refine ex_pass rfl ?_))
    | (go_big_may; first
      | (go_at_call 137; refine HK.out.mono ?_; rintro e w' ⟨rfl, rfl⟩)
      | (go_at_call 138; ((with_reducible refine HX.out.mono ?_); rintro e w' ⟨rfl, rfl⟩))
      | (go_at_call 138; ((with_reducible refine HY.out.mono ?_); rintro e w' ⟨rfl, rfl⟩))
      | (go_at_call 142; refine HS.out.mono ?_; rintro e w' ⟨rfl, rfl⟩))
    | go_values | go_skip | go_guarded | go_step | go_upon | go_back | dsimp only)
  go_ret2
  obtain ⟨ea, eb⟩ := HE.out
  exact ⟨ret_bi (by first | (rw [Bool.eq_iff_iff]; simp; omega) | (rw [Bool.eq_iff_iff]; simp) | rw [Bool.eq_iff_iff]) rfl, rfl⟩

set_option maxHeartbeats 800000 in
theorem Rel_8 (n : Nat) (hn : Okn n) (a b : Nat) (ha : a < 18446744073709551616) (hb : b < 18446744073709551616) (w : World) :
    Calls Tryz.prog 88 #[.int .i64 n, .int .i64 8, .int .u64 a, .int .u64 b] w fun e w' => e = .returned (.tuple #[.bool (relR n 8 (a % 2 ^ n) (b % 2 ^ n)), .int .i64 0]) ∧ w = w' := by
  obtain ⟨h1, h2, h3, h4⟩ := pow_lt64 hn
  have HK := hid (known_yes n hn w)
  have HX := hid (cut_any n hn a ha w)
  have HY := hid (cut_any n hn b hb w)
  have HS := hid (sign_any n hn w)
  obtain ⟨x, hx⟩ : ∃ x : Nat, x = a % 2 ^ n := ⟨_, rfl⟩
  obtain ⟨y, hy⟩ : ∃ y : Nat, y = b % 2 ^ n := ⟨_, rfl⟩
  have hxl : x < 2 ^ n := by rw [hx]; exact Nat.mod_lt _ (Nat.two_pow_pos n)
  have hyl : y < 2 ^ n := by rw [hy]; exact Nat.mod_lt _ (Nat.two_pow_pos n)
  rw [← hx] at HX
  rw [← hy] at HY
  rw [← hx, ← hy]
  have hs : relR n 8 x y = decide (x ≤ y) := by rw [relR, if_neg (by decide), if_neg (by decide), if_neg (by decide), if_neg (by decide), if_neg (by decide), if_neg (by decide), if_neg (by decide), if_pos rfl]
  rw [hs]
  have hxo := xor_turned hn hxl
  have hyo := xor_turned hn hyl
  have ea := turned_sg (a := x) hn
  have eb := turned_sg (a := y) hn
  obtain ⟨S, hS⟩ : ∃ S : Nat, S = 2 ^ (n - 1) := ⟨_, rfl⟩
  obtain ⟨p, hp⟩ : ∃ p : Nat, p = turned n x := ⟨_, rfl⟩
  obtain ⟨q, hq⟩ : ∃ q : Nat, q = turned n y := ⟨_, rfl⟩
  rw [← hS] at HS hxo hyo ea eb
  rw [← hp] at hxo ea
  rw [← hq] at hyo eb
  have HE := hid (And.intro ea eb)
  clear hx hy ha hb h1 h2 h3 h4 hn hxl hyl hs ea eb hS hp hq
  go_enter Tryz.func88, Tryz.ntmps88
  repeat' (first
    | (with_reducible refine wp_exit ?_; repeat (first | with_reducible refine ex_norm ?_ | with_reducible refine ex_then ?_ | with_reducible refine ex_here ?_ | with_reducible refine ex_pass rfl ?_))
    | (go_big_may; first
      | (go_at_call 137; refine HK.out.mono ?_; rintro e w' ⟨rfl, rfl⟩)
      | (go_at_call 138; ((with_reducible refine HX.out.mono ?_); rintro e w' ⟨rfl, rfl⟩))
      | (go_at_call 138; ((with_reducible refine HY.out.mono ?_); rintro e w' ⟨rfl, rfl⟩))
      | (go_at_call 142; refine HS.out.mono ?_; rintro e w' ⟨rfl, rfl⟩))
    | go_values | go_skip | go_guarded | go_step | go_upon | go_back | dsimp only)
  go_ret2
  obtain ⟨ea, eb⟩ := HE.out
  exact ⟨ret_bi (by first | (rw [Bool.eq_iff_iff]; simp; omega) | (rw [Bool.eq_iff_iff]; simp) | rw [Bool.eq_iff_iff]) rfl, rfl⟩

set_option maxHeartbeats 800000 in
theorem Rel_9 (n : Nat) (hn : Okn n) (a b : Nat) (ha : a < 18446744073709551616) (hb : b < 18446744073709551616) (w : World) :
    Calls Tryz.prog 88 #[.int .i64 n, .int .i64 9, .int .u64 a, .int .u64 b] w fun e w' => e = .returned (.tuple #[.bool (relR n 9 (a % 2 ^ n) (b % 2 ^ n)), .int .i64 0]) ∧ w = w' := by
  obtain ⟨h1, h2, h3, h4⟩ := pow_lt64 hn
  have HK := hid (known_yes n hn w)
  have HX := hid (cut_any n hn a ha w)
  have HY := hid (cut_any n hn b hb w)
  have HS := hid (sign_any n hn w)
  obtain ⟨x, hx⟩ : ∃ x : Nat, x = a % 2 ^ n := ⟨_, rfl⟩
  obtain ⟨y, hy⟩ : ∃ y : Nat, y = b % 2 ^ n := ⟨_, rfl⟩
  have hxl : x < 2 ^ n := by rw [hx]; exact Nat.mod_lt _ (Nat.two_pow_pos n)
  have hyl : y < 2 ^ n := by rw [hy]; exact Nat.mod_lt _ (Nat.two_pow_pos n)
  rw [← hx] at HX
  rw [← hy] at HY
  rw [← hx, ← hy]
  have hs : relR n 9 x y = decide (sg n y ≤ sg n x) := by rw [relR, if_neg (by decide), if_neg (by decide), if_neg (by decide), if_neg (by decide), if_neg (by decide), if_neg (by decide), if_neg (by decide), if_neg (by decide), if_pos rfl]
  rw [hs]
  have hxo := xor_turned hn hxl
  have hyo := xor_turned hn hyl
  have ea := turned_sg (a := x) hn
  have eb := turned_sg (a := y) hn
  obtain ⟨S, hS⟩ : ∃ S : Nat, S = 2 ^ (n - 1) := ⟨_, rfl⟩
  obtain ⟨p, hp⟩ : ∃ p : Nat, p = turned n x := ⟨_, rfl⟩
  obtain ⟨q, hq⟩ : ∃ q : Nat, q = turned n y := ⟨_, rfl⟩
  rw [← hS] at HS hxo hyo ea eb
  rw [← hp] at hxo ea
  rw [← hq] at hyo eb
  have HE := hid (And.intro ea eb)
  clear hx hy ha hb h1 h2 h3 h4 hn hxl hyl hs ea eb hS hp hq
  go_enter Tryz.func88, Tryz.ntmps88
  repeat' (first
    | (with_reducible refine wp_exit ?_; repeat (first | with_reducible refine ex_norm ?_ | with_reducible refine ex_then ?_ | with_reducible refine ex_here ?_ | with_reducible refine ex_pass rfl ?_))
    | (go_big_may; first
      | (go_at_call 137; refine HK.out.mono ?_; rintro e w' ⟨rfl, rfl⟩)
      | (go_at_call 138; ((with_reducible refine HX.out.mono ?_); rintro e w' ⟨rfl, rfl⟩))
      | (go_at_call 138; ((with_reducible refine HY.out.mono ?_); rintro e w' ⟨rfl, rfl⟩))
      | (go_at_call 142; refine HS.out.mono ?_; rintro e w' ⟨rfl, rfl⟩))
    | go_values | go_skip | go_guarded | go_step | go_upon | go_back | dsimp only)
  go_ret2
  obtain ⟨ea, eb⟩ := HE.out
  exact ⟨ret_bi (by first | (rw [Bool.eq_iff_iff]; simp; omega) | (rw [Bool.eq_iff_iff]; simp) | rw [Bool.eq_iff_iff]) rfl, rfl⟩

set_option maxHeartbeats 800000 in
theorem Rel_10 (n : Nat) (hn : Okn n) (a b : Nat) (ha : a < 18446744073709551616) (hb : b < 18446744073709551616) (w : World) :
    Calls Tryz.prog 88 #[.int .i64 n, .int .i64 10, .int .u64 a, .int .u64 b] w fun e w' => e = .returned (.tuple #[.bool (relR n 10 (a % 2 ^ n) (b % 2 ^ n)), .int .i64 0]) ∧ w = w' := by
  obtain ⟨h1, h2, h3, h4⟩ := pow_lt64 hn
  have HK := hid (known_yes n hn w)
  have HX := hid (cut_any n hn a ha w)
  have HY := hid (cut_any n hn b hb w)
  have HS := hid (sign_any n hn w)
  obtain ⟨x, hx⟩ : ∃ x : Nat, x = a % 2 ^ n := ⟨_, rfl⟩
  obtain ⟨y, hy⟩ : ∃ y : Nat, y = b % 2 ^ n := ⟨_, rfl⟩
  have hxl : x < 2 ^ n := by rw [hx]; exact Nat.mod_lt _ (Nat.two_pow_pos n)
  have hyl : y < 2 ^ n := by rw [hy]; exact Nat.mod_lt _ (Nat.two_pow_pos n)
  rw [← hx] at HX
  rw [← hy] at HY
  rw [← hx, ← hy]
  have hs : relR n 10 x y = decide (y ≤ x) := by rw [relR, if_neg (by decide), if_neg (by decide), if_neg (by decide), if_neg (by decide), if_neg (by decide), if_neg (by decide), if_neg (by decide), if_neg (by decide), if_neg (by decide)]
  rw [hs]
  have hxo := xor_turned hn hxl
  have hyo := xor_turned hn hyl
  have ea := turned_sg (a := x) hn
  have eb := turned_sg (a := y) hn
  obtain ⟨S, hS⟩ : ∃ S : Nat, S = 2 ^ (n - 1) := ⟨_, rfl⟩
  obtain ⟨p, hp⟩ : ∃ p : Nat, p = turned n x := ⟨_, rfl⟩
  obtain ⟨q, hq⟩ : ∃ q : Nat, q = turned n y := ⟨_, rfl⟩
  rw [← hS] at HS hxo hyo ea eb
  rw [← hp] at hxo ea
  rw [← hq] at hyo eb
  have HE := hid (And.intro ea eb)
  clear hx hy ha hb h1 h2 h3 h4 hn hxl hyl hs ea eb hS hp hq
  go_enter Tryz.func88, Tryz.ntmps88
  repeat' (first
    | (with_reducible refine wp_exit ?_; repeat (first | with_reducible refine ex_norm ?_ | with_reducible refine ex_then ?_ | with_reducible refine ex_here ?_ | with_reducible refine ex_pass rfl ?_))
    | (go_big_may; first
      | (go_at_call 137; refine HK.out.mono ?_; rintro e w' ⟨rfl, rfl⟩)
      | (go_at_call 138; ((with_reducible refine HX.out.mono ?_); rintro e w' ⟨rfl, rfl⟩))
      | (go_at_call 138; ((with_reducible refine HY.out.mono ?_); rintro e w' ⟨rfl, rfl⟩))
      | (go_at_call 142; refine HS.out.mono ?_; rintro e w' ⟨rfl, rfl⟩))
    | go_values | go_skip | go_guarded | go_step | go_upon | go_back | dsimp only)
  go_ret2
  obtain ⟨ea, eb⟩ := HE.out
  exact ⟨ret_bi (by first | (rw [Bool.eq_iff_iff]; simp; omega) | (rw [Bool.eq_iff_iff]; simp) | rw [Bool.eq_iff_iff]) rfl, rfl⟩

theorem Rel_noBits (b : Int) (hb : Bad b) (op x y : Int) (w : World) :
    Calls Tryz.prog 88 #[.int .i64 b, .int .i64 op, .int .u64 x, .int .u64 y] w fun e w' => e = .returned (.tuple #[.bool false, .int .i64 1]) ∧ w = w' := by
  have HK := hid (known_no b hb w)
  clear hb
  go_enter Tryz.func88, Tryz.ntmps88
  repeat' (first
    | (with_reducible refine wp_exit ?_; repeat (first | with_reducible refine ex_norm ?_ | with_reducible refine ex_then ?_ | with_reducible refine ex_here ?_ | with_reducible refine ex_pass rfl ?_))
    | (go_big_may; first
      | (go_at_call 137; refine HK.out.mono ?_; rintro e w' ⟨rfl, rfl⟩))
    | go_values | go_skip | go_guarded | go_step | go_upon | go_back | dsimp only)
  go_ret2
  exact ⟨rfl, rfl⟩

theorem Rel_noOp (n : Nat) (hn : Okn n) (op : Int) (hop : op < 1 ∨ 10 < op) (a b : Nat) (ha : a < 18446744073709551616) (hb : b < 18446744073709551616) (w : World) :
    Calls Tryz.prog 88 #[.int .i64 n, .int .i64 op, .int .u64 a, .int .u64 b] w fun e w' => e = .returned (.tuple #[.bool false, .int .i64 1]) ∧ w = w' := by
  have HK := hid (known_yes n hn w)
  have HX := hid (cut_any n hn a ha w)
  have HY := hid (cut_any n hn b hb w)
  have HS := hid (sign_any n hn w)
  have e1 : (op == 1) = false := by simp; omega
  have e2 : (op == 2) = false := by simp; omega
  have e3 : (op == 3) = false := by simp; omega
  have e4 : (op == 4) = false := by simp; omega
  have e5 : (op == 5) = false := by simp; omega
  have e6 : (op == 6) = false := by simp; omega
  have e7 : (op == 7) = false := by simp; omega
  have e8 : (op == 8) = false := by simp; omega
  have e9 : (op == 9) = false := by simp; omega
  have e10 : (op == 10) = false := by simp; omega
  clear ha hb hn hop
  go_enter Tryz.func88, Tryz.ntmps88
  repeat' (first
    | (with_reducible refine wp_exit ?_; repeat (first | with_reducible refine ex_norm ?_ | with_reducible refine ex_then ?_ | with_reducible refine ex_here ?_ | with_reducible refine ex_pass rfl ?_))
    | (go_big_may; first
      | (go_at_call 137; refine HK.out.mono ?_; rintro e w' ⟨rfl, rfl⟩)
      | (go_at_call 138; ((with_reducible refine HX.out.mono ?_); rintro e w' ⟨rfl, rfl⟩))
      | (go_at_call 138; ((with_reducible refine HY.out.mono ?_); rintro e w' ⟨rfl, rfl⟩))
      | (go_at_call 142; refine HS.out.mono ?_; rintro e w' ⟨rfl, rfl⟩))
    | go_values | go_skip | go_guarded | go_step | go_upon | go_back | dsimp only)
  go_ret2
  exact ⟨rfl, rfl⟩

/-- Rel: the document's answer and error, whatever is asked. -/
theorem Rel_any (bits op : Int) (a b : Nat) (ha : a < 18446744073709551616) (hb : b < 18446744073709551616) (w : World) :
    Calls Tryz.prog 88 #[.int .i64 bits, .int .i64 op, .int .u64 a, .int .u64 b] w fun e w' => e = .returned (.tuple #[.bool (relA bits op a b).1, .int .i64 ((relA bits op a b).2 : Nat)]) ∧ w = w' := by
  by_cases hbits : Okn bits.toNat
  · obtain ⟨n, rfl⟩ : ∃ n : Nat, bits = (n : Int) := ⟨bits.toNat, by have := hbits.le; omega⟩
    rw [Int.toNat_natCast] at hbits
    by_cases hop : 1 ≤ op ∧ op ≤ 10
    · obtain ⟨k, rfl⟩ : ∃ k : Nat, op = (k : Int) := ⟨op.toNat, by omega⟩
      rw [relA, if_pos ⟨by simpa using hbits, by omega, by omega⟩, Int.toNat_natCast, Int.toNat_natCast]
      have hk : k = 1 ∨ k = 2 ∨ k = 3 ∨ k = 4 ∨ k = 5 ∨ k = 6 ∨ k = 7 ∨ k = 8 ∨ k = 9 ∨ k = 10 := by omega
      rcases hk with rfl | rfl | rfl | rfl | rfl | rfl | rfl | rfl | rfl | rfl
      · exact Rel_1 n hbits a b ha hb w
      · exact Rel_2 n hbits a b ha hb w
      · exact Rel_3 n hbits a b ha hb w
      · exact Rel_4 n hbits a b ha hb w
      · exact Rel_5 n hbits a b ha hb w
      · exact Rel_6 n hbits a b ha hb w
      · exact Rel_7 n hbits a b ha hb w
      · exact Rel_8 n hbits a b ha hb w
      · exact Rel_9 n hbits a b ha hb w
      · exact Rel_10 n hbits a b ha hb w
    · rw [relA, if_neg (fun h => hop ⟨h.2.1, h.2.2⟩)]
      exact Rel_noOp n hbits op (by omega) a b ha hb w
  · rw [relA, if_neg (fun h => hbits h.1)]
    exact Rel_noBits bits (by unfold Bad; unfold Okn at hbits; omega) op a b w

end Go.Proofs.YtibfpjnfkknacaaGreatDoor
