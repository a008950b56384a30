/-
  The contracts of the document's own small functions on integers: Right, Cut, bit, Signed. Condition: the bits are 32 or 64.
-/
import Derived.Test.YtnpamiofhalimaaCMath
set_option linter.unusedSimpArgs false
set_option linter.unusedVariables false
namespace Go.Proofs.Ytnpamiofhalimaa
open Go.RowKit

def Okn (n : Nat) : Prop := n = 32 ∨ n = 64
theorem Okn.le {n : Nat} (h : Okn n) : 8 ≤ n ∧ n ≤ 64 := by unfold Okn at h; omega
/-- A word as a number with a sign. -/
def sg (n a : Nat) : Int := if 2 ^ (n - 1) ≤ a then (a : Int) - (2 ^ n : Nat) else a
theorem ret_int {k : IntKind} {a b : Int} (h : a = b) : Ending.returned (.int k a) = .returned (.int k b) := by rw [h]
theorem wrap_nat {q : Nat} (h : q < 18446744073709551616) : IntKind.u64.wrap (q : Int) = (q : Int) := by
  rw [IntKind.wrap_u64]; omega

theorem pow_lt64 {n : Nat} (hn : Okn n) : 2 ^ (n - 1) < 18446744073709551616 ∧ 0 < 2 ^ (n - 1) ∧ 2 ^ n ≤ 18446744073709551616 ∧ 2 ^ n = 2 * 2 ^ (n - 1) := by
  rcases hn with rfl | rfl <;> decide
theorem testBit_top {n x : Nat} (hn : Okn n) (hx : x < 2 ^ n) : x.testBit (n - 1) = decide (2 ^ (n - 1) ≤ x) := by
  obtain ⟨_, _, _, h⟩ := pow_lt64 hn
  rw [h] at hx
  generalize hP : 2 ^ (n - 1) = P at *
  rw [Nat.testBit_eq_decide_div_mod_eq, hP]
  by_cases hc : P ≤ x
  · have : x / P = 1 := by
      rw [Nat.div_eq_iff (by omega)]; omega
    simp [this, hc]
  · have : x / P = 0 := Nat.div_eq_of_lt (by omega)
    simp [this, hc]
theorem sg_abs {n x : Nat} (hx : x < 2 ^ n) : (sg n x).natAbs = if 2 ^ (n - 1) ≤ x then 2 ^ n - x else x := by
  unfold sg
  split <;> omega
theorem neg_mod {n x : Nat} (hn : Okn n) (hx : x < 2 ^ n) (hc : 2 ^ (n - 1) ≤ x) : (18446744073709551616 - x) % 18446744073709551616 % 2 ^ n = 2 ^ n - x := by
  rcases hn with rfl | rfl <;> simp at hx hc ⊢ <;> omega
theorem sg_neg {n x : Nat} (hx : x < 2 ^ n) : sg n x < 0 ↔ 2 ^ (n - 1) ≤ x := by
  unfold sg
  split <;> omega

theorem Right_yes (n : Nat) (hn : Okn n) (w : World) : Calls Try.prog 50 #[.int .i64 n] w fun e w' => e = .returned (.bool true) ∧ w = w' := by
  rcases hn with rfl | rfl
  · show Calls Try.prog 50 #[.int .i64 32] w _
    go_enter Try.func50, Try.ntmps50
    go_wp2
    go_ret
    exact ⟨rfl, rfl⟩
  · show Calls Try.prog 50 #[.int .i64 64] w _
    go_enter Try.func50, Try.ntmps50
    go_wp2
    go_ret
    exact ⟨rfl, rfl⟩

theorem Cut_small (n : Nat) (hn : n < 64) (a : Nat) (w : World) :
    Calls Try.prog 29 #[.int .i64 n, .int .u64 a] w fun e w' => e = .returned (.int .u64 ((a % 2 ^ n : Nat) : Int)) ∧ w = w' := by
  have hne : ((n : Int) == 64) = false := by simp; omega
  obtain ⟨r, hrr⟩ : ∃ r : Nat, r = a % 2 ^ n := ⟨_, rfl⟩
  rw [← hrr]
  have HR := hid hrr
  clear hrr
  go_enter Try.func29, Try.ntmps29
  go_wp2
  go_loop [5, 6] (fun vm vi => ∃ k : Nat, k ≤ n ∧ vi = .int .i64 k ∧ vm = .int .u64 ((2 ^ k : Nat) : Int)) (fun _ vi => n - (intOf vi).toNat)
  case atStart => exact ⟨0, Nat.zero_le _, rfl, rfl⟩
  case round =>
    obtain ⟨k, hk, rfl, rfl⟩ := hrel
    have hp0 := Nat.two_pow_pos k
    by_cases hlt : k < n
    · have hp : 2 ^ k ≤ 2 ^ 62 := Nat.pow_le_pow_right (by decide) (by omega)
      have hw : IntKind.u64.wrap (((2 ^ k : Nat) : Int) * 2) = ((2 ^ (k + 1) : Nat) : Int) := by
        rw [IntKind.wrap_u64, Nat.pow_succ]; omega
      obtain ⟨m, hm⟩ : ∃ m : Nat, m = 2 ^ k := ⟨_, rfl⟩
      rw [← hm] at hw ⊢
      clear hp hp0 hm
      go_wp2
      go_round
      case rel => exact ⟨k + 1, by omega, by go_num, rfl⟩
      case measure => simp [intOf]; omega
    · obtain rfl : k = n := by omega
      have hr : (a : Int) % ((2 ^ k : Nat) : Int) = (r : Int) := by rw [HR.out]; simp
      obtain ⟨m, hm⟩ : ∃ m : Nat, m = 2 ^ k := ⟨_, rfl⟩
      rw [← hm] at hr hp0 ⊢
      have hm0 : 0 < (m : Int) := by omega
      clear hm hp0
      go_wp2
      go_ret
      exact ⟨rfl, rfl⟩

theorem Cut_any (n : Nat) (hn : Okn n) (a : Nat) (ha : a < 18446744073709551616) (w : World) :
    Calls Try.prog 29 #[.int .i64 n, .int .u64 a] w fun e w' => e = .returned (.int .u64 ((a % 2 ^ n : Nat) : Int)) ∧ w = w' := by
  by_cases h : n = 64
  · subst h
    rw [Nat.mod_eq_of_lt (show a < 2 ^ 64 by omega)]
    show Calls Try.prog 29 #[.int .i64 64, .int .u64 a] w _
    go_enter Try.func29, Try.ntmps29
    go_wp2
    go_ret
    exact ⟨rfl, rfl⟩
  · exact Cut_small n (by have := hn.le; omega) a w

theorem bit_any (a k : Nat) (hk : k ≤ 1000) (ha : a < 18446744073709551616) (w : World) :
    Calls Try.prog 51 #[.int .u64 a, .int .i64 k] w fun e w' => e = .returned (.int .u64 ((a / 2 ^ k % 2 : Nat) : Int)) ∧ w = w' := by
  obtain ⟨r, hrr⟩ : ∃ r : Nat, r = a / 2 ^ k % 2 := ⟨_, rfl⟩
  rw [← hrr]
  have HR := hid hrr
  clear hrr
  go_enter Try.func51, Try.ntmps51
  go_wp2
  go_loop [0, 5] (fun va vi => ∃ j : Nat, j ≤ k ∧ vi = .int .i64 j ∧ va = .int .u64 ((a / 2 ^ j : Nat) : Int)) (fun _ vi => k - (intOf vi).toNat)
  case atStart => exact ⟨0, Nat.zero_le _, rfl, by simp⟩
  case round =>
    obtain ⟨j, hj, rfl, rfl⟩ := hrel
    have hd : a / 2 ^ j ≤ a := Nat.div_le_self _ _
    by_cases hlt : j < k
    · have hx : a / 2 ^ (j + 1) = a / 2 ^ j / 2 := by rw [Nat.pow_succ, Nat.div_div_eq_div_mul]
      obtain ⟨x, hxe⟩ : ∃ x : Nat, x = a / 2 ^ j := ⟨_, rfl⟩
      rw [← hxe] at hd hx ⊢
      have hdiv : (x : Int) / 2 = ((x / 2 : Nat) : Int) := by simp
      rw [← hx] at hdiv
      have hww := wrap_nat (show a / 2 ^ (j + 1) < 18446744073709551616 by omega)
      clear hx hxe
      obtain ⟨y, hy⟩ : ∃ y : Nat, y = a / 2 ^ (j + 1) := ⟨_, rfl⟩
      rw [← hy] at hdiv hww
      have HY := hid hy
      clear hy
      go_wp2
      go_round
      case rel => exact ⟨j + 1, by omega, by go_num, by rw [HY.out]⟩
      case measure => simp [intOf]; omega
    · obtain rfl : j = k := by omega
      obtain ⟨x, hxe⟩ : ∃ x : Nat, x = a / 2 ^ j := ⟨_, rfl⟩
      rw [← hxe] at hd ⊢
      have hr : (x : Int) % 2 = (r : Int) := by rw [HR.out, hxe]; simp
      clear hxe
      go_wp2
      go_ret
      exact ⟨rfl, rfl⟩

theorem top_bit {n x : Nat} (hn : Okn n) (hx : x < 2 ^ n) : x / 2 ^ (n - 1) % 2 = if 2 ^ (n - 1) ≤ x then 1 else 0 := by
  have h := testBit_top hn hx
  rw [Nat.testBit_eq_decide_div_mod_eq] at h
  have := decide_eq_decide.1 h
  split <;> omega

set_option maxHeartbeats 800000 in
theorem RSigned_ok (n : Nat) (hn : Okn n) (a : Nat) (ha : a < 18446744073709551616) (w : World) :
    Calls Try.prog 32 #[.int .i64 n, .int .u64 a] w fun e w' => e = .returned (.int .i64 (sg n (a % 2 ^ n))) ∧ w = w' := by
  obtain ⟨h1, h2, h3, h4⟩ := pow_lt64 hn
  have hn8 := hn.le
  have HK := hid (Right_yes n hn w)
  have HX := hid (Cut_any n hn a ha w)
  obtain ⟨x, hx⟩ : ∃ x : Nat, x = a % 2 ^ n := ⟨_, rfl⟩
  have hxl : x < 2 ^ n := by rw [hx]; exact Nat.mod_lt _ (Nat.two_pow_pos n)
  rw [← hx] at HX ⊢
  have hc1 : ((n - 1 : Nat) : Int) = (n : Int) - 1 := by omega
  have hB := bit_any x (n - 1) (by omega) (by omega) w
  rw [hc1, top_bit hn hxl] at hB
  have hz : IntKind.u64.wrap (-(x : Int)) = (((18446744073709551616 - x) % 18446744073709551616 : Nat) : Int) := by
    rw [IntKind.wrap_u64]; omega
  by_cases hc : 2 ^ (n - 1) ≤ x
  · rw [if_pos hc] at hB
    have HB : Hid (Calls Try.prog 51 #[.int .u64 x, .int .i64 ((n : Int) - 1)] w fun e w' => e = .returned (.int .u64 1) ∧ w = w') := hB
    have hC := Cut_any n hn ((18446744073709551616 - x) % 18446744073709551616) (by omega) w
    rw [neg_mod hn hxl hc] at hC
    obtain ⟨z, hze⟩ : ∃ z : Nat, z = (18446744073709551616 - x) % 18446744073709551616 := ⟨_, rfl⟩
    obtain ⟨y, hy⟩ : ∃ y : Nat, y = 2 ^ n - x := ⟨_, rfl⟩
    have hs : sg n x = -((y : Int) - 1) - 1 := by unfold sg; rw [if_pos hc]; omega
    have hw1 : IntKind.u64.wrap ((y : Int) - 1) = ((y - 1 : Nat) : Int) := by rw [IntKind.wrap_u64]; omega
    have hy1 : y - 1 < 9223372036854775808 := by omega
    have hcast : ((y - 1 : Nat) : Int) = (y : Int) - 1 := by omega
    obtain ⟨t, ht⟩ : ∃ t : Nat, t = y - 1 := ⟨_, rfl⟩
    rw [← hze, ← hy] at hC
    rw [← hze] at hz
    rw [← ht] at hw1 hy1 hcast
    have hs2 : sg n x = -(t : Int) - 1 := by omega
    rw [hs2]
    have HC := hid hC
    have HT := hid hy1
    have hn1 : -9223372036854775808 ≤ -(t : Int) - 1 := by omega
    have ht1 : (t : Int) ≤ 9223372036854775807 := by omega
    clear h1 h2 h3 h4 hn hxl hx hc1 hB hc hC hze hy hs ht hs2 hcast hy1
    go_enter Try.func32, Try.ntmps32
    go_wp2_with (first
      | (go_at_call 50; refine HK.out.mono ?_; rintro e w' ⟨rfl, rfl⟩)
      | (go_at_call 29; ((with_reducible refine HX.out.mono ?_); rintro e w' ⟨rfl, rfl⟩))
      | (go_at_call 51; ((with_reducible refine HB.out.mono ?_); rintro e w' ⟨rfl, rfl⟩))
      | (go_at_call 29; ((with_reducible refine HC.out.mono ?_); rintro e w' ⟨rfl, rfl⟩)))
    go_ret
    exact ⟨ret_int (by first | rfl | (unfold wrap64; omega)), rfl⟩
  · rw [if_neg hc] at hB
    have HB : Hid (Calls Try.prog 51 #[.int .u64 x, .int .i64 ((n : Int) - 1)] w fun e w' => e = .returned (.int .u64 0) ∧ w = w') := hB
    have hs : sg n x = x := by unfold sg; rw [if_neg hc]
    have hx1 : (x : Int) ≤ 9223372036854775807 := by omega
    rw [hs]
    clear h1 h2 h3 h4 hn hxl hx hc1 hB hc hs hz
    go_enter Try.func32, Try.ntmps32
    go_wp2_with (first
      | (go_at_call 50; refine HK.out.mono ?_; rintro e w' ⟨rfl, rfl⟩)
      | (go_at_call 29; ((with_reducible refine HX.out.mono ?_); rintro e w' ⟨rfl, rfl⟩))
      | (go_at_call 51; ((with_reducible refine HB.out.mono ?_); rintro e w' ⟨rfl, rfl⟩)))
    go_ret
    exact ⟨ret_int (by first | rfl | (unfold wrap64; omega)), rfl⟩

end Go.Proofs.Ytnpamiofhalimaa
