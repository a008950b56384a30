/-
  BinAny, LSmall, RefSmall, RefList, LSplit: merged, what the law does not reach left out (each text says what it holds where it lies in wip). No condition.
-/
import Derived.Test.YtlhakbkdlgejpaaGreatDoorK03
import Derived.Test.YtlhakbkdlgejpaaGreatDoorK01
import Derived.Test.YtlhakbkdlgejpaaGreatDoorK02
import Derived.Test.YtlhakbkdlgejpaaGreatDoorRows
import Derived.Lib.UnsafeStr
import Derived.Laws.AppendOwnNone
import Derived.OwnWalk
set_option linter.unusedSimpArgs false
set_option linter.unusedVariables false
set_option maxRecDepth 100000
namespace Go.Proofs.YtlhakbkdlgejpaaGreatDoor
open Go.RowKit
/-- What two come to, by any operation; the error. -/
def binA (bits op : Int) (a b : Nat) : Nat × Nat :=
  if Okn bits.toNat ∧ 1 ≤ op ∧ op ≤ 25 ∧ (op = 25 → bits = 16) then binR bits.toNat op.toNat (a % 2 ^ bits.toNat) (b % 2 ^ bits.toNat) else (0, 1)
set_option maxHeartbeats 800000 in
theorem Bin_25 (a b : Nat) (ha : a < 18446744073709551616) (hb : b < 18446744073709551616) (w : World) :
    Calls Tryz.prog 108 #[.int .i64 16, .int .i64 25, .int .u64 a, .int .u64 b] w fun e w' => e = .returned (.tuple #[.int .u64 ((binR 16 25 (a % 2 ^ 16) (b % 2 ^ 16)).1 : Nat), .int .i64 ((binR 16 25 (a % 2 ^ 16) (b % 2 ^ 16)).2 : Nat)]) ∧ w = w' := by
  have hn : Okn 16 := .inr (.inl rfl)
  have HK : Hid (Calls Tryz.prog 135 #[.int .i64 16] w _) := hid (known_yes 16 hn w)
  have HX : Hid (Calls Tryz.prog 136 #[.int .i64 16, .int .u64 a] w _) := hid (cut_any 16 hn a ha w)
  have HY : Hid (Calls Tryz.prog 136 #[.int .i64 16, .int .u64 b] w _) := hid (cut_any 16 hn b hb w)
  obtain ⟨x, hx⟩ : ∃ x : Nat, x = a % 2 ^ 16 := ⟨_, rfl⟩
  obtain ⟨y, hy⟩ : ∃ y : Nat, y = b % 2 ^ 16 := ⟨_, rfl⟩
  have hxl : x < 2 ^ 16 := by rw [hx]; exact Nat.mod_lt _ (Nat.two_pow_pos 16)
  have hyl : y < 2 ^ 16 := by rw [hy]; exact Nat.mod_lt _ (Nat.two_pow_pos 16)
  rw [← hx] at HX
  rw [← hy] at HY
  rw [← hx, ← hy]
  clear hx hy ha hb hn
  have HD := hid (fraction_any x y hxl hyl w)
  have hs : binR 16 25 x y = (toN 16 (clampS 16 ((sg 16 x * sg 16 y + 16384) / 32768)), 0) := by
    rw [binR, if_neg (by decide), if_neg (by decide), if_neg (by decide), if_neg (by decide), if_neg (by decide), if_neg (by decide), if_neg (by decide), if_neg (by decide), if_neg (by decide), if_neg (by decide), if_neg (by decide)]
  rw [hs]
  obtain ⟨s, h5⟩ : ∃ s : Nat, s = toN 16 (clampS 16 ((sg 16 x * sg 16 y + 16384) / 32768)) := ⟨_, rfl⟩
  rw [← h5] at HD ⊢
  clear h5 hs hxl hyl
  go_enter Tryz.func108, Tryz.ntmps108
  repeat' (first
    | (with_reducible refine wp_exit ?_; repeat (first | with_reducible refine ex_norm ?_ | with_reducible refine ex_then ?_ | with_reducible refine ex_here ?_ | with_reducible refine ex_pass rfl ?_))
    | (go_big_may; first
      | (go_at_call 135; refine HK.out.mono ?_; rintro e w' ⟨rfl, rfl⟩)
      | (go_at_call 136; ((with_reducible refine HX.out.mono ?_); rintro e w' ⟨rfl, rfl⟩))
      | (go_at_call 136; ((with_reducible refine HY.out.mono ?_); rintro e w' ⟨rfl, rfl⟩))
      | (go_at_call 178; refine HD.out.mono ?_; rintro e w' ⟨v, rfl, hv, hc, rfl⟩; have HC : Hid (Calls Tryz.prog 136 #[.int .i64 16, .int .u64 v] w _) := hid (cut_any 16 (.inr (.inl rfl)) v hv w); rw [hc] at HC; clear hv hc)
      | (go_at_call 136; ((with_reducible refine HC.out.mono ?_); rintro e w' ⟨rfl, rfl⟩)))
    | go_values | go_skip | go_guarded | go_step | go_upon | go_back | dsimp only)
  go_ret2
  exact ⟨rfl, rfl⟩
theorem Bin_25no (n : Nat) (hn : Okn n) (h16 : n ≠ 16) (a b : Nat) (ha : a < 18446744073709551616) (hb : b < 18446744073709551616) (w : World) :
    Calls Tryz.prog 108 #[.int .i64 n, .int .i64 25, .int .u64 a, .int .u64 b] w fun e w' => e = .returned (.tuple #[.int .u64 0, .int .i64 1]) ∧ w = w' := by
  have HK := hid (known_yes n hn w)
  have HX := hid (cut_any n hn a ha w)
  have HY := hid (cut_any n hn b hb w)
  have hne : ((n : Int) != 16) = true := by simp; omega
  have hne2 : ((n : Int) == 16) = false := by simp; omega
  clear ha hb hn
  go_enter Tryz.func108, Tryz.ntmps108
  repeat' (first
    | (with_reducible refine wp_exit ?_; repeat (first | with_reducible refine ex_norm ?_ | with_reducible refine ex_then ?_ | with_reducible refine ex_here ?_ | with_reducible refine ex_pass rfl ?_))
    | (go_big_may; first
      | (go_at_call 135; refine HK.out.mono ?_; rintro e w' ⟨rfl, rfl⟩)
      | (go_at_call 136; ((with_reducible refine HX.out.mono ?_); rintro e w' ⟨rfl, rfl⟩))
      | (go_at_call 136; ((with_reducible refine HY.out.mono ?_); rintro e w' ⟨rfl, rfl⟩)))
    | go_values | go_skip | go_guarded | go_step | go_upon | go_back | dsimp only)
  go_ret2
  exact ⟨rfl, rfl⟩
theorem Bin_noBits (b : Int) (hb : Bad b) (op x y : Int) (w : World) :
    Calls Tryz.prog 108 #[.int .i64 b, .int .i64 op, .int .u64 x, .int .u64 y] w fun e w' => e = .returned (.tuple #[.int .u64 0, .int .i64 1]) ∧ w = w' := by
  have HK := hid (known_no b hb w)
  clear hb
  go_enter Tryz.func108, Tryz.ntmps108
  repeat' (first
    | (with_reducible refine wp_exit ?_; repeat (first | with_reducible refine ex_norm ?_ | with_reducible refine ex_then ?_ | with_reducible refine ex_here ?_ | with_reducible refine ex_pass rfl ?_))
    | (go_big_may; first
      | (go_at_call 135; refine HK.out.mono ?_; rintro e w' ⟨rfl, rfl⟩))
    | go_values | go_skip | go_guarded | go_step | go_upon | go_back | dsimp only)
  go_ret2
  exact ⟨rfl, rfl⟩
set_option maxHeartbeats 800000 in
theorem Bin_noOp (n : Nat) (hn : Okn n) (op : Int) (hop : op < 1 ∨ 25 < op) (a b : Nat) (ha : a < 18446744073709551616) (hb : b < 18446744073709551616) (w : World) :
    Calls Tryz.prog 108 #[.int .i64 n, .int .i64 op, .int .u64 a, .int .u64 b] w fun e w' => e = .returned (.tuple #[.int .u64 0, .int .i64 1]) ∧ w = w' := by
  have HK := hid (known_yes n hn w)
  have HX := hid (cut_any n hn a ha w)
  have HY := hid (cut_any n hn b hb w)
  have e1 : (op == 1) = false := by simp; omega
  have e2 : (op == 2) = false := by simp; omega
  have e3 : (op == 3) = false := by simp; omega
  have e4 : (op == 4) = false := by simp; omega
  have e5 : (op == 5) = false := by simp; omega
  have e6 : (op == 6) = false := by simp; omega
  have e7 : (op == 7) = false := by simp; omega
  have e8 : (op == 8) = false := by simp; omega
  have e9 : (op == 9) = false := by simp; omega
  have e10 : (op == 10) = false := by simp; omega
  have e11 : (op == 11) = false := by simp; omega
  have e12 : (op == 12) = false := by simp; omega
  have e13 : (op == 13) = false := by simp; omega
  have e14 : (op == 14) = false := by simp; omega
  have e15 : (op == 15) = false := by simp; omega
  have e16 : (op == 16) = false := by simp; omega
  have e17 : (op == 17) = false := by simp; omega
  have e18 : (op == 18) = false := by simp; omega
  have e19 : (op == 19) = false := by simp; omega
  have e20 : (op == 20) = false := by simp; omega
  have e21 : (op == 21) = false := by simp; omega
  have e22 : (op == 22) = false := by simp; omega
  have e23 : (op == 23) = false := by simp; omega
  have e24 : (op == 24) = false := by simp; omega
  have e25 : (op == 25) = false := by simp; omega
  clear ha hb hn hop
  go_enter Tryz.func108, Tryz.ntmps108
  repeat' (first
    | (with_reducible refine wp_exit ?_; repeat (first | with_reducible refine ex_norm ?_ | with_reducible refine ex_then ?_ | with_reducible refine ex_here ?_ | with_reducible refine ex_pass rfl ?_))
    | (go_big_may; first
      | (go_at_call 135; refine HK.out.mono ?_; rintro e w' ⟨rfl, rfl⟩)
      | (go_at_call 136; ((with_reducible refine HX.out.mono ?_); rintro e w' ⟨rfl, rfl⟩))
      | (go_at_call 136; ((with_reducible refine HY.out.mono ?_); rintro e w' ⟨rfl, rfl⟩)))
    | go_values | go_skip | go_guarded | go_step | go_upon | go_back | dsimp only)
  go_ret2
  exact ⟨rfl, rfl⟩
/-- Bin: the document's number and error, whatever is asked. -/
theorem Bin_any (bits op : Int) (a b : Nat) (ha : a < 18446744073709551616) (hb : b < 18446744073709551616) (w : World) :
    Calls Tryz.prog 108 #[.int .i64 bits, .int .i64 op, .int .u64 a, .int .u64 b] w fun e w' => e = .returned (.tuple #[.int .u64 ((binA bits op a b).1 : Nat), .int .i64 ((binA bits op a b).2 : Nat)]) ∧ w = w' := by
  by_cases hbits : Okn bits.toNat
  · obtain ⟨n, rfl⟩ : ∃ n : Nat, bits = (n : Int) := ⟨bits.toNat, by have := hbits.le; omega⟩
    rw [Int.toNat_natCast] at hbits
    by_cases hop : 1 ≤ op ∧ op ≤ 25
    · obtain ⟨k, rfl⟩ : ∃ k : Nat, op = (k : Int) := ⟨op.toNat, by omega⟩
      by_cases h25 : k = 25
      · subst h25
        by_cases h16 : n = 16
        · subst h16
          rw [binA, if_pos ⟨by simpa using hbits, by decide, by decide, fun _ => rfl⟩]
          exact Bin_25 a b ha hb w
        · rw [binA, if_neg (fun h => h16 (by have := h.2.2.2 rfl; omega))]
          exact Bin_25no n hbits h16 a b ha hb w
      · rw [binA, if_pos ⟨by simpa using hbits, by omega, by omega, fun h => absurd h (by omega)⟩, Int.toNat_natCast, Int.toNat_natCast]
        have hk : k = 1 ∨ k = 2 ∨ k = 3 ∨ k = 4 ∨ k = 5 ∨ k = 6 ∨ k = 7 ∨ k = 8 ∨ k = 9 ∨ k = 10 ∨ k = 11 ∨ k = 12 ∨ k = 13 ∨ k = 14 ∨ k = 15 ∨ k = 16 ∨ k = 17 ∨ k = 18 ∨ k = 19 ∨ k = 20 ∨ k = 21 ∨ k = 22 ∨ k = 23 ∨ k = 24 := by omega
        rcases hk with rfl | rfl | rfl | rfl | rfl | rfl | rfl | rfl | rfl | rfl | rfl | rfl | rfl | rfl | rfl | rfl | rfl | rfl | rfl | rfl | rfl | rfl | rfl | rfl
        · exact Bin_1 n hbits a b ha hb w
        · exact Bin_2 n hbits a b ha hb w
        · exact Bin_3 n hbits a b ha hb w
        · exact Bin_4 n hbits a b ha hb w
        · exact Bin_5 n hbits a b ha hb w
        · exact Bin_6 n hbits a b ha hb w
        · exact Bin_7 n hbits a b ha hb w
        · exact Bin_8 n hbits a b ha hb w
        · exact Bin_9 n hbits a b ha hb w
        · exact Bin_10 n hbits a b ha hb w
        · exact Bin_11 n hbits a b ha hb w
        · exact Bin_12 n hbits a b ha hb w
        · exact Bin_13 n hbits a b ha hb w
        · exact Bin_14 n hbits a b ha hb w
        · exact Bin_15 n hbits a b ha hb w
        · exact Bin_16 n hbits a b ha hb w
        · exact Bin_17 n hbits a b ha hb w
        · exact Bin_18 n hbits a b ha hb w
        · exact Bin_19 n hbits a b ha hb w
        · exact Bin_20 n hbits a b ha hb w
        · exact Bin_21 n hbits a b ha hb w
        · exact Bin_22 n hbits a b ha hb w
        · exact Bin_23 n hbits a b ha hb w
        · exact Bin_24 n hbits a b ha hb w
    · rw [binA, if_neg (fun h => hop ⟨h.2.1, h.2.2.1⟩)]
      exact Bin_noOp n hbits op (by omega) a b ha hb w
  · rw [binA, if_neg (fun h => hbits h.1)]
    exact Bin_noBits bits (by unfold Bad; unfold Okn at hbits; omega) op a b w
end Go.Proofs.YtlhakbkdlgejpaaGreatDoor
namespace Go.Proofs.YtlhakbkdlgejpaaGreatDoor
open Go.RowKit
theorem lcut_any (n : Nat) (hn : Okn n) (a : Nat) (ha : a < 18446744073709551616) (w : World) :
    Calls Tryz.prog 35 #[.int .i64 n, .int .u64 a] w fun e w' => e = .returned (.int .u64 ((a % 2 ^ n : Nat) : Int)) ∧ w = w' := by
  have hb : 2 ^ n - 1 < 18446744073709551616 := by rcases hn with rfl | rfl | rfl | rfl <;> decide
  have hand : bits .and .u64 (a : Int) ((2 ^ n - 1 : Nat) : Int) = ((a % 2 ^ n : Nat) : Int) := by
    rw [bits_and_u64_nat _ _ ha hb, Nat.and_two_pow_sub_one_eq_mod]
  clear hb
  rcases hn with rfl | rfl | rfl | rfl
  all_goals
    go_enter Tryz.func35, Tryz.ntmps35
    go_wp2
    go_ret
    exact ⟨ret_int hand, rfl⟩
theorem lcount_any (n : Nat) (hn : Okn n) (w : World) :
    Calls Tryz.prog 52 #[.int .i64 n] w fun e w' => e = .returned (.int .i64 (cnt n : Nat)) ∧ w = w' := by
  rcases hn with rfl | rfl | rfl | rfl
  all_goals
    go_enter Tryz.func52, Tryz.ntmps52
    go_wp2
    go_ret
    exact ⟨rfl, rfl⟩
end Go.Proofs.YtlhakbkdlgejpaaGreatDoor
namespace Go.Proofs.YtlhakbkdlgejpaaGreatDoor
open Go.RowKit
theorem Right_yes (n : Nat) (hn : Okn n) (w : World) : Calls Tryz.prog 196 #[.int .i64 n] w fun e w' => e = .returned (.bool true) ∧ w = w' := by
  rcases hn with rfl | rfl | rfl | rfl
  · show Calls Tryz.prog 196 #[.int .i64 8] w _
    go_enter Tryz.func196, Tryz.ntmps196
    go_wp2
    go_ret
    exact ⟨rfl, rfl⟩
  · show Calls Tryz.prog 196 #[.int .i64 16] w _
    go_enter Tryz.func196, Tryz.ntmps196
    go_wp2
    go_ret
    exact ⟨rfl, rfl⟩
  · show Calls Tryz.prog 196 #[.int .i64 32] w _
    go_enter Tryz.func196, Tryz.ntmps196
    go_wp2
    go_ret
    exact ⟨rfl, rfl⟩
  · show Calls Tryz.prog 196 #[.int .i64 64] w _
    go_enter Tryz.func196, Tryz.ntmps196
    go_wp2
    go_ret
    exact ⟨rfl, rfl⟩
theorem Right_no (b : Int) (hb : Bad b) (w : World) : Calls Tryz.prog 196 #[.int .i64 b] w fun e w' => e = .returned (.bool false) ∧ w = w' := by
  obtain ⟨h1, h2, h3, h4⟩ := hb
  have e1 : (b == 8) = false := by simpa using h1
  have e2 : (b == 16) = false := by simpa using h2
  have e3 : (b == 32) = false := by simpa using h3
  have e4 : (b == 64) = false := by simpa using h4
  clear h1 h2 h3 h4
  go_enter Tryz.func196, Tryz.ntmps196
  go_wp2
  go_ret
  exact ⟨rfl, rfl⟩
theorem Cut_small (n : Nat) (hn : n < 64) (a : Nat) (w : World) :
    Calls Tryz.prog 81 #[.int .i64 n, .int .u64 a] w fun e w' => e = .returned (.int .u64 ((a % 2 ^ n : Nat) : Int)) ∧ w = w' := by
  have hne : ((n : Int) == 64) = false := by simp; omega
  obtain ⟨r, hrr⟩ : ∃ r : Nat, r = a % 2 ^ n := ⟨_, rfl⟩
  rw [← hrr]
  have HR := hid hrr
  clear hrr
  go_enter Tryz.func81, Tryz.ntmps81
  go_wp2
  go_loop [5, 6] (fun vm vi => ∃ k : Nat, k ≤ n ∧ vi = .int .i64 k ∧ vm = .int .u64 ((2 ^ k : Nat) : Int)) (fun _ vi => n - (intOf vi).toNat)
  case atStart => exact ⟨0, Nat.zero_le _, rfl, rfl⟩
  case round =>
    obtain ⟨k, hk, rfl, rfl⟩ := hrel
    have hp0 := Nat.two_pow_pos k
    by_cases hlt : k < n
    · have hp : 2 ^ k ≤ 2 ^ 62 := Nat.pow_le_pow_right (by decide) (by omega)
      have hw : IntKind.u64.wrap (((2 ^ k : Nat) : Int) * 2) = ((2 ^ (k + 1) : Nat) : Int) := by
        rw [IntKind.wrap_u64, Nat.pow_succ]; omega
      obtain ⟨m, hm⟩ : ∃ m : Nat, m = 2 ^ k := ⟨_, rfl⟩
      rw [← hm] at hw ⊢
      clear hp hp0 hm
      go_wp2
      go_round
      case rel => exact ⟨k + 1, by omega, by go_num, rfl⟩
      case measure => simp [intOf]; omega
    · obtain rfl : k = n := by omega
      have hr : (a : Int) % ((2 ^ k : Nat) : Int) = (r : Int) := by rw [HR.out]; simp
      obtain ⟨m, hm⟩ : ∃ m : Nat, m = 2 ^ k := ⟨_, rfl⟩
      rw [← hm] at hr hp0 ⊢
      have hm0 : 0 < (m : Int) := by omega
      clear hm hp0
      go_wp2
      go_ret
      exact ⟨rfl, rfl⟩
theorem Cut_any (n : Nat) (hn : Okn n) (a : Nat) (ha : a < 18446744073709551616) (w : World) :
    Calls Tryz.prog 81 #[.int .i64 n, .int .u64 a] w fun e w' => e = .returned (.int .u64 ((a % 2 ^ n : Nat) : Int)) ∧ w = w' := by
  by_cases h : n = 64
  · subst h
    rw [Nat.mod_eq_of_lt (show a < 2 ^ 64 by omega)]
    show Calls Tryz.prog 81 #[.int .i64 64, .int .u64 a] w _
    go_enter Tryz.func81, Tryz.ntmps81
    go_wp2
    go_ret
    exact ⟨rfl, rfl⟩
  · exact Cut_small n (by have := hn.le; omega) a w
theorem bit_any (a k : Nat) (hk : k ≤ 1000) (ha : a < 18446744073709551616) (w : World) :
    Calls Tryz.prog 210 #[.int .u64 a, .int .i64 k] w fun e w' => e = .returned (.int .u64 ((a / 2 ^ k % 2 : Nat) : Int)) ∧ w = w' := by
  obtain ⟨r, hrr⟩ : ∃ r : Nat, r = a / 2 ^ k % 2 := ⟨_, rfl⟩
  rw [← hrr]
  have HR := hid hrr
  clear hrr
  go_enter Tryz.func210, Tryz.ntmps210
  go_wp2
  go_loop [0, 5] (fun va vi => ∃ j : Nat, j ≤ k ∧ vi = .int .i64 j ∧ va = .int .u64 ((a / 2 ^ j : Nat) : Int)) (fun _ vi => k - (intOf vi).toNat)
  case atStart => exact ⟨0, Nat.zero_le _, rfl, by simp⟩
  case round =>
    obtain ⟨j, hj, rfl, rfl⟩ := hrel
    have hd : a / 2 ^ j ≤ a := Nat.div_le_self _ _
    by_cases hlt : j < k
    · have hx : a / 2 ^ (j + 1) = a / 2 ^ j / 2 := by rw [Nat.pow_succ, Nat.div_div_eq_div_mul]
      obtain ⟨x, hxe⟩ : ∃ x : Nat, x = a / 2 ^ j := ⟨_, rfl⟩
      rw [← hxe] at hd hx ⊢
      have hdiv : (x : Int) / 2 = ((x / 2 : Nat) : Int) := by simp
      rw [← hx] at hdiv
      have hww := wrap_nat (show a / 2 ^ (j + 1) < 18446744073709551616 by omega)
      clear hx hxe
      obtain ⟨y, hy⟩ : ∃ y : Nat, y = a / 2 ^ (j + 1) := ⟨_, rfl⟩
      rw [← hy] at hdiv hww
      have HY := hid hy
      clear hy
      go_wp2
      go_round
      case rel => exact ⟨j + 1, by omega, by go_num, by rw [HY.out]⟩
      case measure => simp [intOf]; omega
    · obtain rfl : j = k := by omega
      obtain ⟨x, hxe⟩ : ∃ x : Nat, x = a / 2 ^ j := ⟨_, rfl⟩
      rw [← hxe] at hd ⊢
      have hr : (x : Int) % 2 = (r : Int) := by rw [HR.out, hxe]; simp
      clear hxe
      go_wp2
      go_ret
      exact ⟨rfl, rfl⟩
theorem top_bit {n x : Nat} (hn : Okn n) (hx : x < 2 ^ n) : x / 2 ^ (n - 1) % 2 = if 2 ^ (n - 1) ≤ x then 1 else 0 := by
  have h := testBit_top hn hx
  rw [Nat.testBit_eq_decide_div_mod_eq] at h
  have := decide_eq_decide.1 h
  split <;> omega
set_option maxHeartbeats 800000 in
theorem RSigned_ok (n : Nat) (hn : Okn n) (a : Nat) (ha : a < 18446744073709551616) (w : World) :
    Calls Tryz.prog 143 #[.int .i64 n, .int .u64 a] w fun e w' => e = .returned (.int .i64 (sg n (a % 2 ^ n))) ∧ w = w' := by
  obtain ⟨h1, h2, h3, h4⟩ := pow_lt64 hn
  have hn8 := hn.le
  have HK := hid (Right_yes n hn w)
  have HX := hid (Cut_any n hn a ha w)
  obtain ⟨x, hx⟩ : ∃ x : Nat, x = a % 2 ^ n := ⟨_, rfl⟩
  have hxl : x < 2 ^ n := by rw [hx]; exact Nat.mod_lt _ (Nat.two_pow_pos n)
  rw [← hx] at HX ⊢
  have hc1 : ((n - 1 : Nat) : Int) = (n : Int) - 1 := by omega
  have hB := bit_any x (n - 1) (by omega) (by omega) w
  rw [hc1, top_bit hn hxl] at hB
  have hz : IntKind.u64.wrap (-(x : Int)) = (((18446744073709551616 - x) % 18446744073709551616 : Nat) : Int) := by
    rw [IntKind.wrap_u64]; omega
  by_cases hc : 2 ^ (n - 1) ≤ x
  · rw [if_pos hc] at hB
    have HB : Hid (Calls Tryz.prog 210 #[.int .u64 x, .int .i64 ((n : Int) - 1)] w fun e w' => e = .returned (.int .u64 1) ∧ w = w') := hB
    have hC := Cut_any n hn ((18446744073709551616 - x) % 18446744073709551616) (by omega) w
    rw [neg_mod hn hxl hc] at hC
    obtain ⟨z, hze⟩ : ∃ z : Nat, z = (18446744073709551616 - x) % 18446744073709551616 := ⟨_, rfl⟩
    obtain ⟨y, hy⟩ : ∃ y : Nat, y = 2 ^ n - x := ⟨_, rfl⟩
    have hs : sg n x = -((y : Int) - 1) - 1 := by unfold sg; rw [if_pos hc]; omega
    have hw1 : IntKind.u64.wrap ((y : Int) - 1) = ((y - 1 : Nat) : Int) := by rw [IntKind.wrap_u64]; omega
    have hy1 : y - 1 < 9223372036854775808 := by omega
    have hcast : ((y - 1 : Nat) : Int) = (y : Int) - 1 := by omega
    obtain ⟨t, ht⟩ : ∃ t : Nat, t = y - 1 := ⟨_, rfl⟩
    rw [← hze, ← hy] at hC
    rw [← hze] at hz
    rw [← ht] at hw1 hy1 hcast
    have hs2 : sg n x = -(t : Int) - 1 := by omega
    rw [hs2]
    have HC := hid hC
    have HT := hid hy1
    have hn1 : -9223372036854775808 ≤ -(t : Int) - 1 := by omega
    have ht1 : (t : Int) ≤ 9223372036854775807 := by omega
    clear h1 h2 h3 h4 hn hxl hx hc1 hB hc hC hze hy hs ht hs2 hcast hy1
    go_enter Tryz.func143, Tryz.ntmps143
    go_wp2_with (first
      | (go_at_call 196; refine HK.out.mono ?_; rintro e w' ⟨rfl, rfl⟩)
      | (go_at_call 81; ((with_reducible refine HX.out.mono ?_); rintro e w' ⟨rfl, rfl⟩))
      | (go_at_call 210; ((with_reducible refine HB.out.mono ?_); rintro e w' ⟨rfl, rfl⟩))
      | (go_at_call 81; ((with_reducible refine HC.out.mono ?_); rintro e w' ⟨rfl, rfl⟩)))
    go_ret
    exact ⟨ret_int (by first | rfl | (unfold wrap64; omega)), rfl⟩
  · rw [if_neg hc] at hB
    have HB : Hid (Calls Tryz.prog 210 #[.int .u64 x, .int .i64 ((n : Int) - 1)] w fun e w' => e = .returned (.int .u64 0) ∧ w = w') := hB
    have hs : sg n x = x := by unfold sg; rw [if_neg hc]
    have hx1 : (x : Int) ≤ 9223372036854775807 := by omega
    rw [hs]
    clear h1 h2 h3 h4 hn hxl hx hc1 hB hc hs hz
    go_enter Tryz.func143, Tryz.ntmps143
    go_wp2_with (first
      | (go_at_call 196; refine HK.out.mono ?_; rintro e w' ⟨rfl, rfl⟩)
      | (go_at_call 81; ((with_reducible refine HX.out.mono ?_); rintro e w' ⟨rfl, rfl⟩))
      | (go_at_call 210; ((with_reducible refine HB.out.mono ?_); rintro e w' ⟨rfl, rfl⟩)))
    go_ret
    exact ⟨ret_int (by first | rfl | (unfold wrap64; omega)), rfl⟩
end Go.Proofs.YtlhakbkdlgejpaaGreatDoor
namespace Go.Proofs.YtlhakbkdlgejpaaGreatDoor
open Go.RowKit
theorem info22 : (Tryz.prog.info? 22).map (fun i => (i.zero, i.size, i.bytes)) = some (some (.int .u64 0), 1, 8) := by kernel_rfl
/-- The cells of f 0, .., f (n - 1). -/
def fc (n : Nat) (f : Nat → Nat) : List Value := (List.range n).map fun j => Value.int .u64 (f j : Nat)
theorem fc_length (n : Nat) (f : Nat → Nat) : (fc n f).length = n := by simp [fc]
theorem fc_get {n : Nat} {f : Nat → Nat} {j : Nat} (hj : j < n) : (fc n f)[j]? = some (.int .u64 (f j : Nat)) := by
  simp [fc, hj]
theorem fc_snoc (n : Nat) (f : Nat → Nat) : fc n f ++ [.int .u64 (f n : Nat)] = fc (n + 1) f := by
  simp [fc, List.range_succ]
theorem fc_set (n : Nat) (f : Nat → Nat) (i v : Nat) : (fc n f).set i (.int .u64 (v : Nat)) = fc n (fun j => if j = i then v else f j) := by
  apply List.ext_getElem?
  intro j
  by_cases hj : j < n
  · rw [fc_get hj, List.getElem?_set]
    by_cases hij : i = j
    · subst hij
      simp [fc_length, hj]
    · rw [if_neg hij, fc_get hj]
      have : ¬ j = i := fun h => hij h.symm
      simp [this]
  · simp [fc, hj]
theorem fc_congr {n : Nat} {f g : Nat → Nat} (h : ∀ j, j < n → f j = g j) : fc n f = fc n g := by
  unfold fc
  apply List.map_congr_left
  intro j hj
  rw [h j (by simpa using hj)]
theorem append_u64 {w : World} {ops : Array Oper} {rest : List Oper} {o : Oper} {a : Act} {Q : Exit → Act → World → Prop} (hgd : o.guard = none) (s x : Operand)
    (ho : o.op = .call { callee := .builtin .append, args := #[s, x], argTypes := #[40, 40] }) (base : Nat) (v : Value) (n : Nat) (xs : List Value) (q : Int)
    (hown : w.ownsRow base 22 1 v n xs) (hbase : base ≤ w.heap.size) (hn : n + 1 ≤ 1000000) (hs : a.eval s = v) (hx : a.eval x = .slice (some ⟨w.heap.size, 0, none⟩) 1 1)
    (h : ∀ v' w', w'.ownsRow base 22 1 v' (n + 1) (xs ++ [.int .u64 q]) → Below base w w' → base ≤ w'.heap.size → wpList Tryz.prog ops Q rest (a.put o.dst v') w') :
    wpList Tryz.prog ops Q (o :: rest) a (w.alloc (.cells #[.int .u64 q] 22)) := by
  obtain ⟨i0, hi, hz0, hz1, hz2⟩ := info_parts info22
  have hb1 := (Below.refl base w).alloc hbase (.cells #[.int .u64 q] 22)
  refine wpList_append_own _ hgd s x 40 ho base 22 i0 (.int .u64 0) 1 8 Tryz.underlying40 hi hz0 hz1 hz2 rfl (by decide) v n xs hs (hown.alloc _) ⟨w.heap.size, 0, none⟩ 1 1 [.int .u64 q] hx rfl (cell_one_new _ _ _)
    (fun u hu => by simp at hu; subst hu; rfl) (by unfold maxLen; omega) (by omega) (by simp; omega) ?_
  intro v' w1 hown' hgrow _
  exact h v' w1 hown' (hb1.grown hgrow (by simp; omega) (fun k hk => (hown.lt k hk).1)) (by have := hgrow.size; simp at this; omega)
theorem owned_at {w : World} {base : Nat} {e : TypeId} {v : Value} {n : Nat} {xs : List Value} (h : w.ownsRow base e 1 v n xs) (hn : 1 ≤ n) : ∃ g cap, v = .slice (some ⟨g, 0, none⟩) n cap := by
  rcases h.2 with ⟨_, h⟩ | ⟨g, cap, _, h, _⟩
  · omega
  · exact ⟨g, cap, h⟩
/-- The j-th bit. -/
def btN (a j : Nat) : Nat := a / 2 ^ j % 2
/-- list: the lowest n bits in new memory. -/
def ListPost (w : World) (n a : Nat) (e : Ending) (w' : World) : Prop := ∃ v', e = .returned v' ∧ w'.ownsRow w.heap.size 22 1 v' n (fc n (btN a)) ∧ Below w.heap.size w w'
set_option maxHeartbeats 800000 in
theorem list_any (n : Nat) (hn : n ≤ 64) (a : Nat) (ha : a < 18446744073709551616) (w : World) :
    Calls Tryz.prog 228 #[.int .i64 n, .int .u64 a] w (ListPost w n a) := by
  have HA := hid ha
  clear ha
  go_enter Tryz.func228, Tryz.ntmps228
  go_wp2
  go_loopw [1, 5, 6] (fun va vl vi wr => ∃ k : Nat, k ≤ n ∧ vi = .int .i64 k ∧ va = .int .u64 ((a / 2 ^ k : Nat) : Int) ∧ wr.ownsRow w.heap.size 22 1 vl k (fc k (btN a)) ∧ Below w.heap.size w wr)
    (fun _ _ vi _ => n - (intOf vi).toNat)
  case atStart => exact ⟨0, Nat.zero_le _, rfl, by simp, by simpa [fc] using World.ownsRow_nil w w.heap.size 22 1, Below.refl _ _⟩
  case round =>
    obtain ⟨k, hk, rfl, rfl, hown, hnx⟩ := hrel
    have hwr := hnx.size
    by_cases hlt : k < n
    · have hd : a / 2 ^ k ≤ a := Nat.div_le_self _ _
      have ha := HA.out
      have hx : a / 2 ^ (k + 1) = a / 2 ^ k / 2 := by rw [Nat.pow_succ, Nat.div_div_eq_div_mul]
      have hb : btN a k = a / 2 ^ k % 2 := rfl
      have hsn := fc_snoc k (btN a)
      rw [hb] at hsn
      obtain ⟨x, hxe⟩ : ∃ x : Nat, x = a / 2 ^ k := ⟨_, rfl⟩
      rw [← hxe] at hd hx hsn ⊢
      have hdiv : (x : Int) / 2 = ((a / 2 ^ (k + 1) : Nat) : Int) := by rw [hx]; simp
      have hww := wrap_nat (show a / 2 ^ (k + 1) < 18446744073709551616 by omega)
      have hr : (x : Int) % 2 = ((x % 2 : Nat) : Int) := by simp
      obtain ⟨y, hy⟩ : ∃ y : Nat, y = a / 2 ^ (k + 1) := ⟨_, rfl⟩
      obtain ⟨r, hre⟩ : ∃ r : Nat, r = x % 2 := ⟨_, rfl⟩
      rw [← hy] at hdiv hww
      rw [← hre] at hr hsn
      have HY := hid hy
      have HS := hid hsn
      have HW := hid hown
      have HX := hid hnx
      clear ha hd hx hb hsn hxe hy hre hown hnx
      go_wp2_with (at_builtin; refine append_u64 rfl _ _ rfl w.heap.size _ _ _ (r : Int) HW.out hwr (by omega) rfl rfl ?_; intro v' w3 hown' hnx3 hsz3)
      go_roundw
      case rel => exact ⟨k + 1, by omega, by go_num, by rw [HY.out], by rw [← HS.out]; exact hown', HX.out.trans hnx3⟩
      case measure => simp [intOf]; omega
    · obtain rfl : k = n := by omega
      have HW := hid hown
      have HX := hid hnx
      clear hown hnx
      go_wp2
      go_ret
      exact ⟨_, rfl, HW.out, HX.out⟩
end Go.Proofs.YtlhakbkdlgejpaaGreatDoor
namespace Go.Proofs.YtlhakbkdlgejpaaGreatDoor
open Go.RowKit
/-- A value: its type, the halves, whether it is null. -/
def vv (t : Int) (lo hi : Nat) (nl : Bool) : Value := .agg #[.int .i64 t, .int .u64 lo, .int .u64 hi, .bool nl]
/-- n lanes in new memory. -/
def LPost (w : World) (n : Nat) (F : Nat → Nat) (e : Ending) (w' : World) : Prop := ∃ v, e = .returned v ∧ w'.ownsRow w.heap.size 22 1 v n (fc n F) ∧ Below w.heap.size w w'
theorem split_step {n : Nat} (hn : Okn n) (lo hi h j : Nat) (hh : h < 2) (hj : j < 64 / n) :
    ((if h = 0 then lo else hi) / 2 ^ (n * j)) % 2 ^ n = splitF n lo hi (h * (64 / n) + j) := by
  unfold splitF laneN
  rcases (show h = 0 ∨ h = 1 by omega) with rfl | rfl
  · rw [Nat.zero_mul, Nat.zero_add, if_pos rfl, if_pos hj]
  · rw [Nat.one_mul, if_neg (by omega), if_neg (by omega), Nat.add_sub_cancel_left]
theorem wrap64_nat' {k : Nat} (h : k ≤ 128) : wrap64 (k : Int) = k := by unfold wrap64; omega
theorem run_idx2 (a b : Value) (w : World) : (Instr.index 65 (.agg #[a, b]) (.int .i64 0)).run Tryz.prog w = .ok a w ∧ (Instr.index 65 (.agg #[a, b]) (.int .i64 1)).run Tryz.prog w = .ok b w := by
  have hs : ∀ w, (sizeOf 22).run Tryz.prog w = .ok 1 w := fun _ => by kernel_rfl
  constructor <;> simp [Instr.index, asIntOf, run_underlying Tryz.underlying65, part, hs]
set_option maxHeartbeats 2000000 in
set_option maxRecDepth 100000 in
theorem Split_says (n : Nat) (hn : Okn n) (t : Int) (lo hi : Nat) (nl : Bool) (hl : lo < 18446744073709551616) (hh : hi < 18446744073709551616) (w : World) :
    Calls Tryz.prog 28 #[.int .i64 n, vv t lo hi nl] w (LPost w (cnt n) (splitF n lo hi)) := by
  have HC := fun W => hid (lcount_any n hn W)
  have HXC := fun (a : Nat) (ha : a < 18446744073709551616) W => hid (lcut_any n hn a ha W)
  have hc0 : ((cnt n : Nat) : Int) ≠ 0 := by rcases hn.cases with ⟨_, _, h⟩ | ⟨_, _, h⟩ | ⟨_, _, h⟩ | ⟨_, _, h⟩ <;> rw [h] <;> decide
  have hc : (((cnt n : Nat) : Int) == 0) = false := by simpa using hc0
  obtain ⟨c, hce⟩ : ∃ c, c = cnt n := ⟨_, rfl⟩
  rw [← hce] at hc HC ⊢
  have hn8 := hn.le
  have hq : n * (64 / n) = 64 := hn.half
  have hq2 : c = 2 * (64 / n) := by rw [hce]; rcases hn.cases with ⟨_, h, h'⟩ | ⟨_, h, h'⟩ | ⟨_, h, h'⟩ | ⟨_, h, h'⟩ <;> omega
  have HS := fun h j hh hj => hid (split_step hn lo hi h j hh hj)
  obtain ⟨q, hqe⟩ : ∃ q, q = 64 / n := ⟨_, rfl⟩
  rw [← hqe] at hq hq2 HS
  have hq8 : q ≤ 8 := by rcases hn.cases with ⟨_, h, _⟩ | ⟨_, h, _⟩ | ⟨_, h, _⟩ | ⟨_, h, _⟩ <;> omega
  have HL := hid hl
  have HH := hid hh
  have HQ := hid hq
  have HQ2 := hid hq2
  obtain ⟨G, hG⟩ : ∃ G, G = splitF n lo hi := ⟨_, rfl⟩
  rw [← hG] at HS ⊢
  clear hc0 hce hn hqe hG hl hh hq hq2
  have hi0 := fun w => (run_idx2 (.int .u64 lo) (.int .u64 hi) w).1
  have hi1 := fun w => (run_idx2 (.int .u64 lo) (.int .u64 hi) w).2
  unfold vv
  go_enter Tryz.func28, Tryz.ntmps28
  go_wp2_with (first
    | (go_at_call 52; refine (HC _).out.mono ?_; rintro e w' ⟨rfl, rfl⟩))
  go_loopw [5, 17] (fun vo vi wr => ∃ h : Nat, h ≤ 2 ∧ vi = .int .i64 h ∧ wr.ownsRow w.heap.size 22 1 vo (h * q) (fc (h * q) G) ∧ Below w.heap.size w wr) (fun _ vi _ => 2 - (intOf vi).toNat)
  case atStart => exact ⟨0, Nat.zero_le _, rfl, by simpa [fc] using World.ownsRow_nil _ w.heap.size 22 1, (Below.refl _ _).alloc (Nat.le_refl _) _⟩
  case round =>
    obtain ⟨h, hh, rfl, hown, hB⟩ := hrel
    have hwr := hB.size
    rcases (show h = 0 ∨ h = 1 ∨ h = 2 by omega) with rfl | rfl | rfl
    · have HW := hid hown
      have HBB := hid hB
      clear hown hB
      rw [show ((0 : Nat) : Int) = 0 from rfl]
      go_wp2
      go_loopw [5, 8] (fun vo vi wr => ∃ j : Nat, j ≤ q ∧ vi = .int .i64 ((n * j : Nat) : Int) ∧ wr.ownsRow w.heap.size 22 1 vo (0 * q + j) (fc (0 * q + j) G) ∧ Below w.heap.size w wr) (fun _ vi _ => 64 - (intOf vi).toNat)
      case atStart => exact ⟨0, Nat.zero_le _, rfl, HW.out, HBB.out⟩
      case round =>
        obtain ⟨j, hj, rfl, hown, hB⟩ := hrel
        have hwr := hB.size
        by_cases hlt : j < q
        · have hjn : n * j < 64 := by
            have := Nat.mul_lt_mul_of_pos_left hlt (show 0 < n by omega)
            have := HQ.out; omega
          have hx : lo / 2 ^ (n * j) % 2 ^ n = G (0 * q + j) := (HS 0 j (by decide) hlt).out
          have hxl : lo / 2 ^ (n * j) < 18446744073709551616 := Nat.lt_of_le_of_lt (Nat.div_le_self _ _) HL.out
          have hnx : (n * j : Nat) + (n : Int) = ((n * (j + 1) : Nat) : Int) := by rw [Nat.mul_add, Nat.mul_one]; omega
          obtain ⟨at_, hat⟩ : ∃ at_ : Nat, at_ = n * j := ⟨_, rfl⟩
          obtain ⟨i, hie⟩ : ∃ i : Nat, i = 0 * q + j := ⟨_, rfl⟩
          rw [← hie] at hx hown
          rw [← hat] at hjn hx hxl hnx ⊢
          have HCU : Hid (∀ W, Calls Tryz.prog 35 #[.int .i64 n, .int .u64 ((lo : Int) / 2 ^ at_)] W fun e w' => e = .returned (.int .u64 (G i : Nat)) ∧ W = w') := fun W => by
            have := (HXC (lo / 2 ^ at_) hxl W).out
            rw [hx] at this
            simpa using this
          have hw := wrap64_nat' (show at_ + n ≤ 128 by omega)
          have HSN := hid (fc_snoc i G)
          have HI := hid hie
          have hi8 : i ≤ 64 := by omega
          have HW2 := hid hown
          have HB2 := hid hB
          have HAT := hid hat
          have HNX := hid hnx
          clear  hat hown hB hx hxl hnx hie
          go_wp2_with (first
            | (go_at_call 35; refine (HCU.out _).mono ?_; rintro e w' ⟨rfl, rfl⟩)
            | (at_builtin; refine append_u64 rfl _ _ rfl w.heap.size _ _ _ (G i : Int) HW2.out hwr (by omega) rfl rfl ?_; intro v' w3 hown' hnx3 hsz3))
          go_roundw
          case rel => exact ⟨j + 1, by omega, by rw [← HNX.out], by rw [← Nat.add_assoc,  ← HI.out, ← HSN.out]; exact hown', HB2.out.trans hnx3⟩
          case measure => simp [intOf]; omega
        · obtain rfl : j = q := by omega
          have hjn : n * j = 64 := HQ.out
          rw [hjn]
          have HW2 := hid hown
          have HB2 := hid hB
          clear hown hB hjn
          go_wp2
          go_roundw
          case rel => exact ⟨0 + 1, by omega, by go_num, by rw [Nat.add_mul, Nat.one_mul]; exact HW2.out, HB2.out⟩
          case measure => simp [intOf]
    · have HW := hid hown
      have HBB := hid hB
      clear hown hB
      rw [show ((1 : Nat) : Int) = 1 from rfl]
      go_wp2
      go_loopw [5, 8] (fun vo vi wr => ∃ j : Nat, j ≤ q ∧ vi = .int .i64 ((n * j : Nat) : Int) ∧ wr.ownsRow w.heap.size 22 1 vo (1 * q + j) (fc (1 * q + j) G) ∧ Below w.heap.size w wr) (fun _ vi _ => 64 - (intOf vi).toNat)
      case atStart => exact ⟨0, Nat.zero_le _, rfl, HW.out, HBB.out⟩
      case round =>
        obtain ⟨j, hj, rfl, hown, hB⟩ := hrel
        have hwr := hB.size
        by_cases hlt : j < q
        · have hjn : n * j < 64 := by
            have := Nat.mul_lt_mul_of_pos_left hlt (show 0 < n by omega)
            have := HQ.out; omega
          have hx : hi / 2 ^ (n * j) % 2 ^ n = G (1 * q + j) := (HS 1 j (by decide) hlt).out
          have hxl : hi / 2 ^ (n * j) < 18446744073709551616 := Nat.lt_of_le_of_lt (Nat.div_le_self _ _) HH.out
          have hnx : (n * j : Nat) + (n : Int) = ((n * (j + 1) : Nat) : Int) := by rw [Nat.mul_add, Nat.mul_one]; omega
          obtain ⟨at_, hat⟩ : ∃ at_ : Nat, at_ = n * j := ⟨_, rfl⟩
          obtain ⟨i, hie⟩ : ∃ i : Nat, i = 1 * q + j := ⟨_, rfl⟩
          rw [← hie] at hx hown
          rw [← hat] at hjn hx hxl hnx ⊢
          have HCU : Hid (∀ W, Calls Tryz.prog 35 #[.int .i64 n, .int .u64 ((hi : Int) / 2 ^ at_)] W fun e w' => e = .returned (.int .u64 (G i : Nat)) ∧ W = w') := fun W => by
            have := (HXC (hi / 2 ^ at_) hxl W).out
            rw [hx] at this
            simpa using this
          have hw := wrap64_nat' (show at_ + n ≤ 128 by omega)
          have HSN := hid (fc_snoc i G)
          have HI := hid hie
          have hi8 : i ≤ 64 := by omega
          have HW2 := hid hown
          have HB2 := hid hB
          have HAT := hid hat
          have HNX := hid hnx
          clear  hat hown hB hx hxl hnx hie
          go_wp2_with (first
            | (go_at_call 35; refine (HCU.out _).mono ?_; rintro e w' ⟨rfl, rfl⟩)
            | (at_builtin; refine append_u64 rfl _ _ rfl w.heap.size _ _ _ (G i : Int) HW2.out hwr (by omega) rfl rfl ?_; intro v' w3 hown' hnx3 hsz3))
          go_roundw
          case rel => exact ⟨j + 1, by omega, by rw [← HNX.out], by rw [← Nat.add_assoc,  ← HI.out, ← HSN.out]; exact hown', HB2.out.trans hnx3⟩
          case measure => simp [intOf]; omega
        · obtain rfl : j = q := by omega
          have hjn : n * j = 64 := HQ.out
          rw [hjn]
          have HW2 := hid hown
          have HB2 := hid hB
          clear hown hB hjn
          go_wp2
          go_roundw
          case rel => exact ⟨1 + 1, by omega, by go_num, by rw [show (1 + 1) * j = 1 * j + j by omega]; exact HW2.out, HB2.out⟩
          case measure => simp [intOf]
    · have HW := hid hown
      have HBB := hid hB
      clear hown hB
      go_wp2
      go_ret
      exact ⟨_, rfl, by rw [HQ2.out]; exact HW.out, HBB.out⟩
end Go.Proofs.YtlhakbkdlgejpaaGreatDoor
