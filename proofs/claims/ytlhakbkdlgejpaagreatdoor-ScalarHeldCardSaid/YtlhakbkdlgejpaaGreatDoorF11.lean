/-
  FCMath, FRInts, FRConv, FTMath: merged (each text says what it holds where it lies in wip). No condition.
-/
import Derived.Test.YtlhakbkdlgejpaaGreatDoorF10
import Derived.Test.YtlhakbkdlgejpaaGreatDoorF07
import Derived.Laws.FloatArith
import Derived.Laws.Externs
import Derived.Laws.NewFold
import Derived.Test.YtlhakbkdlgejpaaGreatDoorF08
set_option linter.unusedSimpArgs false
set_option linter.unusedVariables false
set_option maxRecDepth 100000
namespace Go.Proofs.YtlhakbkdlgejpaaGreatDoor.Fl
open Ieee

/-- A float of 32 bits that is no NaN, promoted, is what Ieee's own conversion says. -/
theorem promote_vS {c : Nat} (hc : c < 2 * 2147483648) (h : c % 2147483648 ≤ 2139095040) : resW double 9221120237041090560 2147483648 2139095040 23 (-149) c = vS c := by
  unfold resW
  rw [if_neg (by omega), rungR_false]
  unfold wm we vS
  rcases Nat.lt_or_ge (c % 2147483648) 2139095040 with h1 | h1
  · rw [if_neg (by omega), if_neg (by omega), read_fin fmt_single.sb fmt_single.fr fmt_single.lp hc h1]
    exact (nearest_eq double _ _ _).symm
  · have h2 : c % 2147483648 = 2139095040 := by omega
    rw [if_pos h2, if_pos h2, read_inf (f := single) fmt_single.sb hc fmt_single.bi h2]
    cases decide (2147483648 ≤ c) <;> decide +kernel

/-- And demoted it is what it was. -/
theorem demote_vS {c : Nat} (hc : c < 2 * 2147483648) (h : c % 2147483648 ≤ 2139095040) : resW single 2143289344 9223372036854775808 9218868437227405312 52 (-1074) (vS c) = c := by
  obtain ⟨hr, hlt, hle⟩ := vS_read hc h
  unfold resW
  rw [if_neg (by omega), rungR_false]
  unfold wm we
  rcases hr with ⟨h1, h2, h3⟩ | ⟨h1, h2, h3⟩
  · have hfin : vS c % 9223372036854775808 < 9218868437227405312 := by
      rcases Nat.lt_or_ge (vS c % 9223372036854775808) 9218868437227405312 with h4 | h4
      · exact h4
      · have h5 : vS c % 9223372036854775808 = 9218868437227405312 := by omega
        rw [read_inf (f := double) fmt_double.sb hlt fmt_double.bi h5] at h2
        unfold wideD at h2
        split at h2 <;> cases h2
    rw [read_fin fmt_double.sb fmt_double.fr fmt_double.lp hlt hfin] at h2
    rw [if_neg (by omega), if_neg (by omega)]
    have hb := rungOf_parts fmt_single h1
    generalize pm 52 (vS c % 9223372036854775808) = m' at *
    generalize pe 52 (-1074) (vS c % 9223372036854775808) = e' at *
    generalize decide (9223372036854775808 ≤ vS c) = s' at *
    unfold wideD at h2
    by_cases h0 : pm 23 (c % 2147483648) = 0
    · rw [if_pos h0] at h2
      rw [h0] at hb
      injection h2 with a1 a2 a3
      subst a1 a2 a3
      rw [show rungOf single 0 (-1074) = 0 from rfl]
      rw [show rungOf single 0 (pe 23 (-149) (c % 2147483648)) = 0 from rfl] at hb
      rw [hb]
      exact word_sz fmt_single hc
    · rw [if_neg h0] at h2
      injection h2 with a1 a2 a3
      subst a1 a2 a3
      rw [rungOf_scale, hb]
      exact word_sz fmt_single hc
  · have hinf : vS c % 9223372036854775808 = 9218868437227405312 := by
      rcases Nat.lt_or_ge (vS c % 9223372036854775808) 9218868437227405312 with h4 | h4
      · rw [read_fin fmt_double.sb fmt_double.fr fmt_double.lp hlt h4] at h2; cases h2
      · omega
    rw [read_inf (f := double) fmt_double.sb hlt fmt_double.bi hinf] at h2
    injection h2 with a1
    rw [if_pos hinf, if_pos hinf, a1, show rungOf single 1 1024 = 2139095040 by decide +kernel, ← h1]
    exact word_sz fmt_single hc

/-- A whole number of at most 53 bits as a float of 64: its parts make it. -/
theorem int_back (s : Bool) (M : Nat) (hM : M < 9007199254740992) : ∃ b : Nat, double.word s (rungR double M 0 false) = b ∧ b < 2 * 9223372036854775808 ∧ b % 9223372036854775808 < 9218868437227405312 ∧ decide (9223372036854775808 ≤ b) = s ∧
    mag (wm 9223372036854775808 9218868437227405312 52 b) (we 9223372036854775808 9218868437227405312 52 (-1074) b) = M := by
  obtain ⟨h1, h2, h3, h4⟩ := read_write_double s M 0 hM (by decide) (by decide)
  have hw : double.word s (rungR double M 0 false) = double.write (.number s M 0) := by rw [rungR_false]; exact (nearest_eq double _ _ _).symm
  generalize double.write (.number s M 0) = b at *
  refine ⟨b, hw, h2, h3, h4, ?_⟩
  unfold wm we
  rw [if_neg (by omega), if_neg (by omega)]
  rw [read_fin fmt_double.sb fmt_double.fr fmt_double.lp h2 h3] at h1
  unfold wideD at h1
  by_cases h0 : M = 0
  · rw [if_pos h0] at h1
    injection h1 with a1 a2 a3
    rw [a2, a3, h0]
    unfold mag
    rw [if_pos (by decide), Nat.zero_div]
  · rw [if_neg h0] at h1
    injection h1 with a1 a2 a3
    rw [a2, a3]
    generalize 52 - M.log2 = k
    unfold mag
    by_cases hk : k = 0
    · subst hk; simp
    · rw [if_pos (by omega), show (-(0 - (k : Int))).toNat = k by omega]
      exact Nat.mul_div_cancel _ (Nat.two_pow_pos k)

end Go.Proofs.YtlhakbkdlgejpaaGreatDoor.Fl
namespace Go.Proofs.YtlhakbkdlgejpaaGreatDoor.Fl
open Go.RowKit

def Okn (n : Nat) : Prop := n = 32 ∨ n = 64
theorem Okn.le {n : Nat} (h : Okn n) : 8 ≤ n ∧ n ≤ 64 := by unfold Okn at h; omega
/-- A word as a number with a sign. -/
def sg (n a : Nat) : Int := if 2 ^ (n - 1) ≤ a then (a : Int) - (2 ^ n : Nat) else a
theorem ret_int {k : IntKind} {a b : Int} (h : a = b) : Ending.returned (.int k a) = .returned (.int k b) := by rw [h]
theorem wrap_nat {q : Nat} (h : q < 18446744073709551616) : IntKind.u64.wrap (q : Int) = (q : Int) := by
  rw [IntKind.wrap_u64]; omega

theorem pow_lt64 {n : Nat} (hn : Okn n) : 2 ^ (n - 1) < 18446744073709551616 ∧ 0 < 2 ^ (n - 1) ∧ 2 ^ n ≤ 18446744073709551616 ∧ 2 ^ n = 2 * 2 ^ (n - 1) := by
  rcases hn with rfl | rfl <;> decide
theorem testBit_top {n x : Nat} (hn : Okn n) (hx : x < 2 ^ n) : x.testBit (n - 1) = decide (2 ^ (n - 1) ≤ x) := by
  obtain ⟨_, _, _, h⟩ := pow_lt64 hn
  rw [h] at hx
  generalize hP : 2 ^ (n - 1) = P at *
  rw [Nat.testBit_eq_decide_div_mod_eq, hP]
  by_cases hc : P ≤ x
  · have : x / P = 1 := by
      rw [Nat.div_eq_iff (by omega)]; omega
    simp [this, hc]
  · have : x / P = 0 := Nat.div_eq_of_lt (by omega)
    simp [this, hc]
theorem sg_abs {n x : Nat} (hx : x < 2 ^ n) : (sg n x).natAbs = if 2 ^ (n - 1) ≤ x then 2 ^ n - x else x := by
  unfold sg
  split <;> omega
theorem neg_mod {n x : Nat} (hn : Okn n) (hx : x < 2 ^ n) (hc : 2 ^ (n - 1) ≤ x) : (18446744073709551616 - x) % 18446744073709551616 % 2 ^ n = 2 ^ n - x := by
  rcases hn with rfl | rfl <;> simp at hx hc ⊢ <;> omega
theorem sg_neg {n x : Nat} (hx : x < 2 ^ n) : sg n x < 0 ↔ 2 ^ (n - 1) ≤ x := by
  unfold sg
  split <;> omega

theorem Right_yes (n : Nat) (hn : Okn n) (w : World) : Calls Tryz.prog 196 #[.int .i64 n] w fun e w' => e = .returned (.bool true) ∧ w = w' := by
  rcases hn with rfl | rfl
  · show Calls Tryz.prog 196 #[.int .i64 32] w _
    go_enter Tryz.func196, Tryz.ntmps196
    go_wp2
    go_ret
    exact ⟨rfl, rfl⟩
  · show Calls Tryz.prog 196 #[.int .i64 64] w _
    go_enter Tryz.func196, Tryz.ntmps196
    go_wp2
    go_ret
    exact ⟨rfl, rfl⟩

theorem Cut_small (n : Nat) (hn : n < 64) (a : Nat) (w : World) :
    Calls Tryz.prog 81 #[.int .i64 n, .int .u64 a] w fun e w' => e = .returned (.int .u64 ((a % 2 ^ n : Nat) : Int)) ∧ w = w' := by
  have hne : ((n : Int) == 64) = false := by simp; omega
  obtain ⟨r, hrr⟩ : ∃ r : Nat, r = a % 2 ^ n := ⟨_, rfl⟩
  rw [← hrr]
  have HR := hid hrr
  clear hrr
  go_enter Tryz.func81, Tryz.ntmps81
  go_wp2
  go_loop [5, 6] (fun vm vi => ∃ k : Nat, k ≤ n ∧ vi = .int .i64 k ∧ vm = .int .u64 ((2 ^ k : Nat) : Int)) (fun _ vi => n - (intOf vi).toNat)
  case atStart => exact ⟨0, Nat.zero_le _, rfl, rfl⟩
  case round =>
    obtain ⟨k, hk, rfl, rfl⟩ := hrel
    have hp0 := Nat.two_pow_pos k
    by_cases hlt : k < n
    · have hp : 2 ^ k ≤ 2 ^ 62 := Nat.pow_le_pow_right (by decide) (by omega)
      have hw : IntKind.u64.wrap (((2 ^ k : Nat) : Int) * 2) = ((2 ^ (k + 1) : Nat) : Int) := by
        rw [IntKind.wrap_u64, Nat.pow_succ]; omega
      obtain ⟨m, hm⟩ : ∃ m : Nat, m = 2 ^ k := ⟨_, rfl⟩
      rw [← hm] at hw ⊢
      clear hp hp0 hm
      go_wp2
      go_round
      case rel => exact ⟨k + 1, by omega, by go_num, rfl⟩
      case measure => simp [intOf]; omega
    · obtain rfl : k = n := by omega
      have hr : (a : Int) % ((2 ^ k : Nat) : Int) = (r : Int) := by rw [HR.out]; simp
      obtain ⟨m, hm⟩ : ∃ m : Nat, m = 2 ^ k := ⟨_, rfl⟩
      rw [← hm] at hr hp0 ⊢
      have hm0 : 0 < (m : Int) := by omega
      clear hm hp0
      go_wp2
      go_ret
      exact ⟨rfl, rfl⟩

theorem Cut_any (n : Nat) (hn : Okn n) (a : Nat) (ha : a < 18446744073709551616) (w : World) :
    Calls Tryz.prog 81 #[.int .i64 n, .int .u64 a] w fun e w' => e = .returned (.int .u64 ((a % 2 ^ n : Nat) : Int)) ∧ w = w' := by
  by_cases h : n = 64
  · subst h
    rw [Nat.mod_eq_of_lt (show a < 2 ^ 64 by omega)]
    show Calls Tryz.prog 81 #[.int .i64 64, .int .u64 a] w _
    go_enter Tryz.func81, Tryz.ntmps81
    go_wp2
    go_ret
    exact ⟨rfl, rfl⟩
  · exact Cut_small n (by have := hn.le; omega) a w

theorem bit_any (a k : Nat) (hk : k ≤ 1000) (ha : a < 18446744073709551616) (w : World) :
    Calls Tryz.prog 210 #[.int .u64 a, .int .i64 k] w fun e w' => e = .returned (.int .u64 ((a / 2 ^ k % 2 : Nat) : Int)) ∧ w = w' := by
  obtain ⟨r, hrr⟩ : ∃ r : Nat, r = a / 2 ^ k % 2 := ⟨_, rfl⟩
  rw [← hrr]
  have HR := hid hrr
  clear hrr
  go_enter Tryz.func210, Tryz.ntmps210
  go_wp2
  go_loop [0, 5] (fun va vi => ∃ j : Nat, j ≤ k ∧ vi = .int .i64 j ∧ va = .int .u64 ((a / 2 ^ j : Nat) : Int)) (fun _ vi => k - (intOf vi).toNat)
  case atStart => exact ⟨0, Nat.zero_le _, rfl, by simp⟩
  case round =>
    obtain ⟨j, hj, rfl, rfl⟩ := hrel
    have hd : a / 2 ^ j ≤ a := Nat.div_le_self _ _
    by_cases hlt : j < k
    · have hx : a / 2 ^ (j + 1) = a / 2 ^ j / 2 := by rw [Nat.pow_succ, Nat.div_div_eq_div_mul]
      obtain ⟨x, hxe⟩ : ∃ x : Nat, x = a / 2 ^ j := ⟨_, rfl⟩
      rw [← hxe] at hd hx ⊢
      have hdiv : (x : Int) / 2 = ((x / 2 : Nat) : Int) := by simp
      rw [← hx] at hdiv
      have hww := wrap_nat (show a / 2 ^ (j + 1) < 18446744073709551616 by omega)
      clear hx hxe
      obtain ⟨y, hy⟩ : ∃ y : Nat, y = a / 2 ^ (j + 1) := ⟨_, rfl⟩
      rw [← hy] at hdiv hww
      have HY := hid hy
      clear hy
      go_wp2
      go_round
      case rel => exact ⟨j + 1, by omega, by go_num, by rw [HY.out]⟩
      case measure => simp [intOf]; omega
    · obtain rfl : j = k := by omega
      obtain ⟨x, hxe⟩ : ∃ x : Nat, x = a / 2 ^ j := ⟨_, rfl⟩
      rw [← hxe] at hd ⊢
      have hr : (x : Int) % 2 = (r : Int) := by rw [HR.out, hxe]; simp
      clear hxe
      go_wp2
      go_ret
      exact ⟨rfl, rfl⟩

theorem top_bit {n x : Nat} (hn : Okn n) (hx : x < 2 ^ n) : x / 2 ^ (n - 1) % 2 = if 2 ^ (n - 1) ≤ x then 1 else 0 := by
  have h := testBit_top hn hx
  rw [Nat.testBit_eq_decide_div_mod_eq] at h
  have := decide_eq_decide.1 h
  split <;> omega

set_option maxHeartbeats 800000 in
theorem RSigned_ok (n : Nat) (hn : Okn n) (a : Nat) (ha : a < 18446744073709551616) (w : World) :
    Calls Tryz.prog 143 #[.int .i64 n, .int .u64 a] w fun e w' => e = .returned (.int .i64 (sg n (a % 2 ^ n))) ∧ w = w' := by
  obtain ⟨h1, h2, h3, h4⟩ := pow_lt64 hn
  have hn8 := hn.le
  have HK := hid (Right_yes n hn w)
  have HX := hid (Cut_any n hn a ha w)
  obtain ⟨x, hx⟩ : ∃ x : Nat, x = a % 2 ^ n := ⟨_, rfl⟩
  have hxl : x < 2 ^ n := by rw [hx]; exact Nat.mod_lt _ (Nat.two_pow_pos n)
  rw [← hx] at HX ⊢
  have hc1 : ((n - 1 : Nat) : Int) = (n : Int) - 1 := by omega
  have hB := bit_any x (n - 1) (by omega) (by omega) w
  rw [hc1, top_bit hn hxl] at hB
  have hz : IntKind.u64.wrap (-(x : Int)) = (((18446744073709551616 - x) % 18446744073709551616 : Nat) : Int) := by
    rw [IntKind.wrap_u64]; omega
  by_cases hc : 2 ^ (n - 1) ≤ x
  · rw [if_pos hc] at hB
    have HB : Hid (Calls Tryz.prog 210 #[.int .u64 x, .int .i64 ((n : Int) - 1)] w fun e w' => e = .returned (.int .u64 1) ∧ w = w') := hB
    have hC := Cut_any n hn ((18446744073709551616 - x) % 18446744073709551616) (by omega) w
    rw [neg_mod hn hxl hc] at hC
    obtain ⟨z, hze⟩ : ∃ z : Nat, z = (18446744073709551616 - x) % 18446744073709551616 := ⟨_, rfl⟩
    obtain ⟨y, hy⟩ : ∃ y : Nat, y = 2 ^ n - x := ⟨_, rfl⟩
    have hs : sg n x = -((y : Int) - 1) - 1 := by unfold sg; rw [if_pos hc]; omega
    have hw1 : IntKind.u64.wrap ((y : Int) - 1) = ((y - 1 : Nat) : Int) := by rw [IntKind.wrap_u64]; omega
    have hy1 : y - 1 < 9223372036854775808 := by omega
    have hcast : ((y - 1 : Nat) : Int) = (y : Int) - 1 := by omega
    obtain ⟨t, ht⟩ : ∃ t : Nat, t = y - 1 := ⟨_, rfl⟩
    rw [← hze, ← hy] at hC
    rw [← hze] at hz
    rw [← ht] at hw1 hy1 hcast
    have hs2 : sg n x = -(t : Int) - 1 := by omega
    rw [hs2]
    have HC := hid hC
    have HT := hid hy1
    have hn1 : -9223372036854775808 ≤ -(t : Int) - 1 := by omega
    have ht1 : (t : Int) ≤ 9223372036854775807 := by omega
    clear h1 h2 h3 h4 hn hxl hx hc1 hB hc hC hze hy hs ht hs2 hcast hy1
    go_enter Tryz.func143, Tryz.ntmps143
    go_wp2_with (first
      | (go_at_call 196; refine HK.out.mono ?_; rintro e w' ⟨rfl, rfl⟩)
      | (go_at_call 81; ((with_reducible refine HX.out.mono ?_); rintro e w' ⟨rfl, rfl⟩))
      | (go_at_call 210; ((with_reducible refine HB.out.mono ?_); rintro e w' ⟨rfl, rfl⟩))
      | (go_at_call 81; ((with_reducible refine HC.out.mono ?_); rintro e w' ⟨rfl, rfl⟩)))
    go_ret
    exact ⟨ret_int (by first | rfl | (unfold wrap64; omega)), rfl⟩
  · rw [if_neg hc] at hB
    have HB : Hid (Calls Tryz.prog 210 #[.int .u64 x, .int .i64 ((n : Int) - 1)] w fun e w' => e = .returned (.int .u64 0) ∧ w = w') := hB
    have hs : sg n x = x := by unfold sg; rw [if_neg hc]
    have hx1 : (x : Int) ≤ 9223372036854775807 := by omega
    rw [hs]
    clear h1 h2 h3 h4 hn hxl hx hc1 hB hc hs hz
    go_enter Tryz.func143, Tryz.ntmps143
    go_wp2_with (first
      | (go_at_call 196; refine HK.out.mono ?_; rintro e w' ⟨rfl, rfl⟩)
      | (go_at_call 81; ((with_reducible refine HX.out.mono ?_); rintro e w' ⟨rfl, rfl⟩))
      | (go_at_call 210; ((with_reducible refine HB.out.mono ?_); rintro e w' ⟨rfl, rfl⟩)))
    go_ret
    exact ⟨ret_int (by first | rfl | (unfold wrap64; omega)), rfl⟩

end Go.Proofs.YtlhakbkdlgejpaaGreatDoor.Fl
namespace Go.Proofs.YtlhakbkdlgejpaaGreatDoor.Fl
open Go.RowKit

theorem ext53 (v : Nat) (w : World) : (callFunc 260 #[.float .f32 v]).run Tryz.prog w = .ok (.value (.int .u32 (v : Int))) w := by
  have := run_callFunc_extern (P := Tryz.prog) (e := Extern.MathFloatBits.float32bits) Tryz.func260 (by kernel_rfl) (by kernel_rfl) (by kernel_rfl) (by kernel_rfl) #[.float .f32 v] w
  rw [this]; rfl
theorem ext54 (v : Nat) (w : World) : (callFunc 261 #[.float .f64 v]).run Tryz.prog w = .ok (.value (.int .u64 (v : Int))) w := by
  have := run_callFunc_extern (P := Tryz.prog) (e := Extern.MathFloatBits.float64bits) Tryz.func261 (by kernel_rfl) (by kernel_rfl) (by kernel_rfl) (by kernel_rfl) #[.float .f64 v] w
  rw [this]; rfl

theorem B32_num (v : Nat) (hv : v < 2 * 2147483648) (h : v % 2147483648 ≤ 2139095040) (w : World) : Say 223 #[.float .f32 v] w (.int .u64 (v : Int)) := by
  have hx : ∀ W : World, (callFunc 260 #[.float .f32 v]).run Tryz.prog W = .ok (.value (.int .u32 (v : Int))) W := fun W => ext53 v W
  have ho : (FloatKind.f32.format.order v v != some .eq) = false := by
    have := order_word fmt_single hv hv h h
    rw [cmp_eq rfl] at this
    show (Ieee.single.order v v != some .eq) = false
    rw [this]; rfl
  have hw : IntKind.u64.wrap (v : Int) = (v : Int) := wrap_nat (by omega)
  clear hv h
  go_enter Tryz.func223, Tryz.ntmps223
  go_wp2
  go_ret
  exact ⟨rfl, Below.refl _ _⟩

theorem B64_num (v : Nat) (hv : v < 2 * 9223372036854775808) (h : v % 9223372036854775808 ≤ 9218868437227405312) (w : World) : Say 224 #[.float .f64 v] w (.int .u64 (v : Int)) := by
  have hx : ∀ W : World, (callFunc 261 #[.float .f64 v]).run Tryz.prog W = .ok (.value (.int .u64 (v : Int))) W := fun W => ext54 v W
  have ho : (FloatKind.f64.format.order v v != some .eq) = false := by
    have := order_word fmt_double hv hv h h
    rw [cmp_eq rfl] at this
    show (Ieee.double.order v v != some .eq) = false
    rw [this]; rfl
  clear hv h
  go_enter Tryz.func224, Tryz.ntmps224
  go_wp2
  go_ret
  exact ⟨rfl, Below.refl _ _⟩

theorem rung_le (f : Ieee.Format) (m : Nat) (e : Int) : rungOf f m e ≤ f.infRung := by
  unfold rungOf; split
  · exact Nat.zero_le _
  · exact Nat.min_le_right _ _

theorem word_ok32 (s : Bool) (r : Nat) (h : r ≤ 2139095040) : Ieee.single.word s r < 2 * 2147483648 ∧ Ieee.single.word s r % 2147483648 ≤ 2139095040 := by
  have : Ieee.single.word s r = (if s then 2147483648 + r else r) := rfl
  rw [this]; split <;> omega
theorem word_ok64 (s : Bool) (r : Nat) (h : r ≤ 9218868437227405312) : Ieee.double.word s r < 2 * 9223372036854775808 ∧ Ieee.double.word s r % 9223372036854775808 ≤ 9218868437227405312 := by
  have : Ieee.double.word s r = (if s then 9223372036854775808 + r else r) := rfl
  rw [this]; split <;> omega

theorem fI_32 (n : Int) : floatOfInt .f32 n = Ieee.single.word (decide (n < 0)) (rungOf Ieee.single n.natAbs 0) := nearest_eq Ieee.single (decide (n < 0)) n.natAbs 0
theorem fI_64 (n : Int) : floatOfInt .f64 n = Ieee.double.word (decide (n < 0)) (rungOf Ieee.double n.natAbs 0) := nearest_eq Ieee.double (decide (n < 0)) n.natAbs 0

theorem B32_int (n : Int) (w : World) : Say 223 #[.float .f32 (floatOfInt .f32 n)] w (.int .u64 ((Ieee.single.word (decide (n < 0)) (rungR Ieee.single n.natAbs 0 false) : Nat) : Int)) := by
  rw [rungR_false, fI_32]
  have h := word_ok32 (decide (n < 0)) _ (rung_le Ieee.single n.natAbs 0)
  exact B32_num _ h.1 h.2 w
theorem B64_int (n : Int) (w : World) : Say 224 #[.float .f64 (floatOfInt .f64 n)] w (.int .u64 ((Ieee.double.word (decide (n < 0)) (rungR Ieee.double n.natAbs 0 false) : Nat) : Int)) := by
  rw [rungR_false, fI_64]
  have h := word_ok64 (decide (n < 0)) _ (rung_le Ieee.double n.natAbs 0)
  exact B64_num _ h.1 h.2 w

theorem int_sg {n : Nat} (a : Nat) : ineg n true a = decide (sg n (a % 2 ^ n) < 0) ∧ isize n true a = (sg n (a % 2 ^ n)).natAbs := by
  have hx : a % 2 ^ n < 2 ^ n := Nat.mod_lt _ (Nat.two_pow_pos n)
  have h1 := sg_neg hx
  have h2 := sg_abs hx
  have e1 : ineg n true a = decide (sg n (a % 2 ^ n) < 0) := by
    show decide (2 ^ (n - 1) ≤ a % 2 ^ n) = _
    exact decide_eq_decide.2 h1.symm
  refine ⟨e1, ?_⟩
  unfold isize
  rw [e1, h2]
  by_cases h : 2 ^ (n - 1) ≤ a % 2 ^ n
  · rw [if_pos h, if_pos (decide_eq_true (h1.2 h))]
  · rw [if_neg h, decide_eq_false (fun h3 => h (h1.1 h3)), if_neg (by decide)]

theorem RConvert_bad (b F : Int) (h : (b ≠ 32 ∧ b ≠ 64) ∨ (F ≠ 32 ∧ F ≠ 64)) (s : Bool) (a : Nat) (w : World) : Say 212 #[.int .i64 b, .int .i64 F, .bool s, .int .u64 (a : Int)] w (.tuple #[.int .u64 0, .int .i64 1]) := by
  obtain ⟨e1, h1⟩ : ∃ x : Bool, (b == 32) = x := ⟨_, rfl⟩
  obtain ⟨e2, h2⟩ : ∃ x : Bool, (b == 64) = x := ⟨_, rfl⟩
  obtain ⟨e3, h3⟩ : ∃ x : Bool, (F == 32) = x := ⟨_, rfl⟩
  obtain ⟨e4, h4⟩ : ∃ x : Bool, (F == 64) = x := ⟨_, rfl⟩
  have g1 : (b != 32) = !e1 := by rw [← h1]; rfl
  have g2 : (b != 64) = !e2 := by rw [← h2]; rfl
  have g3 : (F != 32) = !e3 := by rw [← h3]; rfl
  have g4 : (F != 64) = !e4 := by rw [← h4]; rfl
  have hh : (e1 = false ∧ e2 = false) ∨ (e3 = false ∧ e4 = false) := by
    rcases h with ⟨x, y⟩ | ⟨x, y⟩
    · exact .inl ⟨by rw [← h1]; simpa using x, by rw [← h2]; simpa using y⟩
    · exact .inr ⟨by rw [← h3]; simpa using x, by rw [← h4]; simpa using y⟩
  clear h h1 h2 h3 h4
  rcases hh with ⟨rfl, rfl⟩ | ⟨rfl, rfl⟩
  · go_enter Tryz.func212, Tryz.ntmps212
    go_wp2
    go_ret2
    exact ⟨rfl, Below.refl _ _⟩
  · cases e1 <;> cases e2 <;>
    · go_enter Tryz.func212, Tryz.ntmps212
      go_wp2
      go_ret2
      exact ⟨rfl, Below.refl _ _⟩

theorem RConvert_32_32 (s : Bool) (a : Nat) (ha : a < 18446744073709551616) (w : World) :
    Say 212 #[.int .i64 32, .int .i64 32, .bool s, .int .u64 (a : Int)] w (.tuple #[.int .u64 ((Ieee.single.word (ineg 32 s a) (rungR Ieee.single (isize 32 s a) 0 false) : Nat) : Int), .int .i64 0]) := by
  have hc64 : a % 2 ^ 32 < 18446744073709551616 := Nat.lt_of_le_of_lt (Nat.mod_le _ _) ha
  have HC : ∀ W, Hid (Calls Tryz.prog 81 #[.int .i64 32, .int .u64 (a : Int)] W fun e w' => e = .returned (.int .u64 ((a % 2 ^ 32 : Nat) : Int)) ∧ W = w') := fun W => hid (Cut_any 32 (.inl rfl) a ha W)
  have hmm : a % 2 ^ 32 % 2 ^ 32 = a % 2 ^ 32 := Nat.mod_mod _ _
  cases s with
  | false =>
    have hB := fun W => B32_int ((a % 2 ^ 32 : Nat) : Int) W
    have hx : Ieee.single.word (decide (((a % 2 ^ 32 : Nat) : Int) < 0)) (rungR Ieee.single ((a % 2 ^ 32 : Nat) : Int).natAbs 0 false) = Ieee.single.word (ineg 32 false a) (rungR Ieee.single (isize 32 false a) 0 false) := by
      rw [decide_eq_false (by omega), Int.natAbs_natCast]; rfl
    rw [hx] at hB
    have HB := fun W => hid (hB W)
    generalize Ieee.single.word (ineg 32 false a) (rungR Ieee.single (isize 32 false a) 0 false) = X at *
    generalize a % 2 ^ 32 = c at *
    clear hx hB hc64 hmm ha
    have hB : Below w.heap.size w w := Below.refl _ _
    go_enter Tryz.func212, Tryz.ntmps212
    go_wp2_with (first
      | (go_at_call 81; ((with_reducible refine (HC _).out.mono ?_); rintro e w1 ⟨rfl, rfl⟩))
      | (go_at_call 223; ((with_reducible refine (HB _).out.mono ?_); rintro e w1 ⟨rfl, hb⟩; replace hB := bnext hB hb; clear hb)))
    exact bodyPost_ret (v := .tuple #[.int .u64 (X : Int), .int .i64 0]) (by simp [results, Tryz.results212, go_sem]) rfl ⟨rfl, hB⟩
  | true =>
    have hS : ∀ W, Calls Tryz.prog 143 #[.int .i64 32, .int .u64 ((a % 2 ^ 32 : Nat) : Int)] W fun e w' => e = .returned (.int .i64 (sg 32 (a % 2 ^ 32 % 2 ^ 32))) ∧ W = w' := fun W => RSigned_ok 32 (.inl rfl) (a % 2 ^ 32) hc64 W
    have hi := int_sg (n := 32) a
    rw [hmm] at hS
    have hB := fun W => B32_int (sg 32 (a % 2 ^ 32)) W
    rw [← hi.1, ← hi.2] at hB
    have HB := fun W => hid (hB W)
    have HS := fun W => hid (hS W)
    generalize Ieee.single.word (ineg 32 true a) (rungR Ieee.single (isize 32 true a) 0 false) = X at *
    generalize sg 32 (a % 2 ^ 32) = z at *
    generalize a % 2 ^ 32 = c at *
    clear hi hB hS hc64 hmm ha
    have hB : Below w.heap.size w w := Below.refl _ _
    go_enter Tryz.func212, Tryz.ntmps212
    go_wp2_with (first
      | (go_at_call 81; ((with_reducible refine (HC _).out.mono ?_); rintro e w1 ⟨rfl, rfl⟩))
      | (go_at_call 143; ((with_reducible refine (HS _).out.mono ?_); rintro e w1 ⟨rfl, rfl⟩))
      | (go_at_call 223; ((with_reducible refine (HB _).out.mono ?_); rintro e w1 ⟨rfl, hb⟩; replace hB := bnext hB hb; clear hb)))
    exact bodyPost_ret (v := .tuple #[.int .u64 (X : Int), .int .i64 0]) (by simp [results, Tryz.results212, go_sem]) rfl ⟨rfl, hB⟩

theorem RConvert_32_64 (s : Bool) (a : Nat) (ha : a < 18446744073709551616) (w : World) :
    Say 212 #[.int .i64 32, .int .i64 64, .bool s, .int .u64 (a : Int)] w (.tuple #[.int .u64 ((Ieee.double.word (ineg 32 s a) (rungR Ieee.double (isize 32 s a) 0 false) : Nat) : Int), .int .i64 0]) := by
  have hc64 : a % 2 ^ 32 < 18446744073709551616 := Nat.lt_of_le_of_lt (Nat.mod_le _ _) ha
  have HC : ∀ W, Hid (Calls Tryz.prog 81 #[.int .i64 32, .int .u64 (a : Int)] W fun e w' => e = .returned (.int .u64 ((a % 2 ^ 32 : Nat) : Int)) ∧ W = w') := fun W => hid (Cut_any 32 (.inl rfl) a ha W)
  have hmm : a % 2 ^ 32 % 2 ^ 32 = a % 2 ^ 32 := Nat.mod_mod _ _
  cases s with
  | false =>
    have hB := fun W => B64_int ((a % 2 ^ 32 : Nat) : Int) W
    have hx : Ieee.double.word (decide (((a % 2 ^ 32 : Nat) : Int) < 0)) (rungR Ieee.double ((a % 2 ^ 32 : Nat) : Int).natAbs 0 false) = Ieee.double.word (ineg 32 false a) (rungR Ieee.double (isize 32 false a) 0 false) := by
      rw [decide_eq_false (by omega), Int.natAbs_natCast]; rfl
    rw [hx] at hB
    have HB := fun W => hid (hB W)
    generalize Ieee.double.word (ineg 32 false a) (rungR Ieee.double (isize 32 false a) 0 false) = X at *
    generalize a % 2 ^ 32 = c at *
    clear hx hB hc64 hmm ha
    have hB : Below w.heap.size w w := Below.refl _ _
    go_enter Tryz.func212, Tryz.ntmps212
    go_wp2_with (first
      | (go_at_call 81; ((with_reducible refine (HC _).out.mono ?_); rintro e w1 ⟨rfl, rfl⟩))
      | (go_at_call 224; ((with_reducible refine (HB _).out.mono ?_); rintro e w1 ⟨rfl, hb⟩; replace hB := bnext hB hb; clear hb)))
    exact bodyPost_ret (v := .tuple #[.int .u64 (X : Int), .int .i64 0]) (by simp [results, Tryz.results212, go_sem]) rfl ⟨rfl, hB⟩
  | true =>
    have hS : ∀ W, Calls Tryz.prog 143 #[.int .i64 32, .int .u64 ((a % 2 ^ 32 : Nat) : Int)] W fun e w' => e = .returned (.int .i64 (sg 32 (a % 2 ^ 32 % 2 ^ 32))) ∧ W = w' := fun W => RSigned_ok 32 (.inl rfl) (a % 2 ^ 32) hc64 W
    have hi := int_sg (n := 32) a
    rw [hmm] at hS
    have hB := fun W => B64_int (sg 32 (a % 2 ^ 32)) W
    rw [← hi.1, ← hi.2] at hB
    have HB := fun W => hid (hB W)
    have HS := fun W => hid (hS W)
    generalize Ieee.double.word (ineg 32 true a) (rungR Ieee.double (isize 32 true a) 0 false) = X at *
    generalize sg 32 (a % 2 ^ 32) = z at *
    generalize a % 2 ^ 32 = c at *
    clear hi hB hS hc64 hmm ha
    have hB : Below w.heap.size w w := Below.refl _ _
    go_enter Tryz.func212, Tryz.ntmps212
    go_wp2_with (first
      | (go_at_call 81; ((with_reducible refine (HC _).out.mono ?_); rintro e w1 ⟨rfl, rfl⟩))
      | (go_at_call 143; ((with_reducible refine (HS _).out.mono ?_); rintro e w1 ⟨rfl, rfl⟩))
      | (go_at_call 224; ((with_reducible refine (HB _).out.mono ?_); rintro e w1 ⟨rfl, hb⟩; replace hB := bnext hB hb; clear hb)))
    exact bodyPost_ret (v := .tuple #[.int .u64 (X : Int), .int .i64 0]) (by simp [results, Tryz.results212, go_sem]) rfl ⟨rfl, hB⟩

theorem RConvert_64_32 (s : Bool) (a : Nat) (ha : a < 18446744073709551616) (w : World) :
    Say 212 #[.int .i64 64, .int .i64 32, .bool s, .int .u64 (a : Int)] w (.tuple #[.int .u64 ((Ieee.single.word (ineg 64 s a) (rungR Ieee.single (isize 64 s a) 0 false) : Nat) : Int), .int .i64 0]) := by
  have hc64 : a % 2 ^ 64 < 18446744073709551616 := Nat.lt_of_le_of_lt (Nat.mod_le _ _) ha
  have HC : ∀ W, Hid (Calls Tryz.prog 81 #[.int .i64 64, .int .u64 (a : Int)] W fun e w' => e = .returned (.int .u64 ((a % 2 ^ 64 : Nat) : Int)) ∧ W = w') := fun W => hid (Cut_any 64 (.inr rfl) a ha W)
  have hmm : a % 2 ^ 64 % 2 ^ 64 = a % 2 ^ 64 := Nat.mod_mod _ _
  cases s with
  | false =>
    have hB := fun W => B32_int ((a % 2 ^ 64 : Nat) : Int) W
    have hx : Ieee.single.word (decide (((a % 2 ^ 64 : Nat) : Int) < 0)) (rungR Ieee.single ((a % 2 ^ 64 : Nat) : Int).natAbs 0 false) = Ieee.single.word (ineg 64 false a) (rungR Ieee.single (isize 64 false a) 0 false) := by
      rw [decide_eq_false (by omega), Int.natAbs_natCast]; rfl
    rw [hx] at hB
    have HB := fun W => hid (hB W)
    generalize Ieee.single.word (ineg 64 false a) (rungR Ieee.single (isize 64 false a) 0 false) = X at *
    generalize a % 2 ^ 64 = c at *
    clear hx hB hc64 hmm ha
    have hB : Below w.heap.size w w := Below.refl _ _
    go_enter Tryz.func212, Tryz.ntmps212
    go_wp2_with (first
      | (go_at_call 81; ((with_reducible refine (HC _).out.mono ?_); rintro e w1 ⟨rfl, rfl⟩))
      | (go_at_call 223; ((with_reducible refine (HB _).out.mono ?_); rintro e w1 ⟨rfl, hb⟩; replace hB := bnext hB hb; clear hb)))
    exact bodyPost_ret (v := .tuple #[.int .u64 (X : Int), .int .i64 0]) (by simp [results, Tryz.results212, go_sem]) rfl ⟨rfl, hB⟩
  | true =>
    have hS : ∀ W, Calls Tryz.prog 143 #[.int .i64 64, .int .u64 ((a % 2 ^ 64 : Nat) : Int)] W fun e w' => e = .returned (.int .i64 (sg 64 (a % 2 ^ 64 % 2 ^ 64))) ∧ W = w' := fun W => RSigned_ok 64 (.inr rfl) (a % 2 ^ 64) hc64 W
    have hi := int_sg (n := 64) a
    rw [hmm] at hS
    have hB := fun W => B32_int (sg 64 (a % 2 ^ 64)) W
    rw [← hi.1, ← hi.2] at hB
    have HB := fun W => hid (hB W)
    have HS := fun W => hid (hS W)
    generalize Ieee.single.word (ineg 64 true a) (rungR Ieee.single (isize 64 true a) 0 false) = X at *
    generalize sg 64 (a % 2 ^ 64) = z at *
    generalize a % 2 ^ 64 = c at *
    clear hi hB hS hc64 hmm ha
    have hB : Below w.heap.size w w := Below.refl _ _
    go_enter Tryz.func212, Tryz.ntmps212
    go_wp2_with (first
      | (go_at_call 81; ((with_reducible refine (HC _).out.mono ?_); rintro e w1 ⟨rfl, rfl⟩))
      | (go_at_call 143; ((with_reducible refine (HS _).out.mono ?_); rintro e w1 ⟨rfl, rfl⟩))
      | (go_at_call 223; ((with_reducible refine (HB _).out.mono ?_); rintro e w1 ⟨rfl, hb⟩; replace hB := bnext hB hb; clear hb)))
    exact bodyPost_ret (v := .tuple #[.int .u64 (X : Int), .int .i64 0]) (by simp [results, Tryz.results212, go_sem]) rfl ⟨rfl, hB⟩

theorem RConvert_64_64 (s : Bool) (a : Nat) (ha : a < 18446744073709551616) (w : World) :
    Say 212 #[.int .i64 64, .int .i64 64, .bool s, .int .u64 (a : Int)] w (.tuple #[.int .u64 ((Ieee.double.word (ineg 64 s a) (rungR Ieee.double (isize 64 s a) 0 false) : Nat) : Int), .int .i64 0]) := by
  have hc64 : a % 2 ^ 64 < 18446744073709551616 := Nat.lt_of_le_of_lt (Nat.mod_le _ _) ha
  have HC : ∀ W, Hid (Calls Tryz.prog 81 #[.int .i64 64, .int .u64 (a : Int)] W fun e w' => e = .returned (.int .u64 ((a % 2 ^ 64 : Nat) : Int)) ∧ W = w') := fun W => hid (Cut_any 64 (.inr rfl) a ha W)
  have hmm : a % 2 ^ 64 % 2 ^ 64 = a % 2 ^ 64 := Nat.mod_mod _ _
  cases s with
  | false =>
    have hB := fun W => B64_int ((a % 2 ^ 64 : Nat) : Int) W
    have hx : Ieee.double.word (decide (((a % 2 ^ 64 : Nat) : Int) < 0)) (rungR Ieee.double ((a % 2 ^ 64 : Nat) : Int).natAbs 0 false) = Ieee.double.word (ineg 64 false a) (rungR Ieee.double (isize 64 false a) 0 false) := by
      rw [decide_eq_false (by omega), Int.natAbs_natCast]; rfl
    rw [hx] at hB
    have HB := fun W => hid (hB W)
    generalize Ieee.double.word (ineg 64 false a) (rungR Ieee.double (isize 64 false a) 0 false) = X at *
    generalize a % 2 ^ 64 = c at *
    clear hx hB hc64 hmm ha
    have hB : Below w.heap.size w w := Below.refl _ _
    go_enter Tryz.func212, Tryz.ntmps212
    go_wp2_with (first
      | (go_at_call 81; ((with_reducible refine (HC _).out.mono ?_); rintro e w1 ⟨rfl, rfl⟩))
      | (go_at_call 224; ((with_reducible refine (HB _).out.mono ?_); rintro e w1 ⟨rfl, hb⟩; replace hB := bnext hB hb; clear hb)))
    exact bodyPost_ret (v := .tuple #[.int .u64 (X : Int), .int .i64 0]) (by simp [results, Tryz.results212, go_sem]) rfl ⟨rfl, hB⟩
  | true =>
    have hS : ∀ W, Calls Tryz.prog 143 #[.int .i64 64, .int .u64 ((a % 2 ^ 64 : Nat) : Int)] W fun e w' => e = .returned (.int .i64 (sg 64 (a % 2 ^ 64 % 2 ^ 64))) ∧ W = w' := fun W => RSigned_ok 64 (.inr rfl) (a % 2 ^ 64) hc64 W
    have hi := int_sg (n := 64) a
    rw [hmm] at hS
    have hB := fun W => B64_int (sg 64 (a % 2 ^ 64)) W
    rw [← hi.1, ← hi.2] at hB
    have HB := fun W => hid (hB W)
    have HS := fun W => hid (hS W)
    generalize Ieee.double.word (ineg 64 true a) (rungR Ieee.double (isize 64 true a) 0 false) = X at *
    generalize sg 64 (a % 2 ^ 64) = z at *
    generalize a % 2 ^ 64 = c at *
    clear hi hB hS hc64 hmm ha
    have hB : Below w.heap.size w w := Below.refl _ _
    go_enter Tryz.func212, Tryz.ntmps212
    go_wp2_with (first
      | (go_at_call 81; ((with_reducible refine (HC _).out.mono ?_); rintro e w1 ⟨rfl, rfl⟩))
      | (go_at_call 143; ((with_reducible refine (HS _).out.mono ?_); rintro e w1 ⟨rfl, rfl⟩))
      | (go_at_call 224; ((with_reducible refine (HB _).out.mono ?_); rintro e w1 ⟨rfl, hb⟩; replace hB := bnext hB hb; clear hb)))
    exact bodyPost_ret (v := .tuple #[.int .u64 (X : Int), .int .i64 0]) (by simp [results, Tryz.results212, go_sem]) rfl ⟨rfl, hB⟩

end Go.Proofs.YtlhakbkdlgejpaaGreatDoor.Fl
namespace Go.Proofs.YtlhakbkdlgejpaaGreatDoor.Fl
open Go.RowKit

section
open Ieee

theorem cut_scale (way : Toward) (s : Bool) (n d k : Nat) : way.cut s (n * 2 ^ k) (d + k) = way.cut s n d := by
  have hp : 0 < 2 ^ k := Nat.two_pow_pos k
  have h1 : n * 2 ^ k / 2 ^ (d + k) = n / 2 ^ d := by rw [Nat.pow_add]; exact Nat.mul_div_mul_right _ _ hp
  have h2 : n * 2 ^ k % 2 ^ (d + k) = n % 2 ^ d * 2 ^ k := by rw [Nat.pow_add]; exact Nat.mul_mod_mul_right _ _ _
  rw [cut_plain, cut_plain, h1]
  have : cutUp way s (n * 2 ^ k) (d + k) = cutUp way s n d := by
    unfold cutUp
    rw [h1, h2, Nat.pow_add]
    generalize n % 2 ^ d = r
    generalize 2 ^ d = D
    generalize 2 ^ k = K at *
    cases way
    · have e1 : decide (D * K < 2 * (r * K)) = decide (D < 2 * r) := decide_eq_decide.2 (by
        rw [← Nat.mul_assoc]; exact Nat.mul_lt_mul_right hp)
      have e2 : (D * K == 2 * (r * K)) = (D == 2 * r) := by
        rw [← Nat.mul_assoc]
        by_cases h : D = 2 * r
        · subst h; rw [beq_self_eq_true, beq_self_eq_true]
        · have : ¬ D * K = 2 * r * K := fun h2 => h (Nat.eq_of_mul_eq_mul_right hp h2)
          rw [beq_eq_false_iff_ne.2 this, beq_eq_false_iff_ne.2 h]
      show (decide (D * K < 2 * (r * K)) || (D * K == 2 * (r * K) && n / D % 2 == 1)) = (decide (D < 2 * r) || (D == 2 * r && n / D % 2 == 1))
      rw [e1, e2]
    · have e3 : (r * K != 0) = (r != 0) := by
        by_cases h : r = 0
        · subst h; rw [Nat.zero_mul]
        · have : ¬ r * K = 0 := Nat.mul_ne_zero h (by omega)
          rw [bne_iff_ne.2 this, bne_iff_ne.2 h]
      show (s && (r * K != 0)) = (s && (r != 0))
      rw [e3]
    · have e3 : (r * K != 0) = (r != 0) := by
        by_cases h : r = 0
        · subst h; rw [Nat.zero_mul]
        · have : ¬ r * K = 0 := Nat.mul_ne_zero h (by omega)
          rw [bne_iff_ne.2 this, bne_iff_ne.2 h]
      show (!s && (r * K != 0)) = (!s && (r != 0))
      rw [e3]
    · rfl
  rw [this]

/-- A number moved up, its place moved down, made whole, is the same. -/
theorem wide_integral (way : Toward) (s : Bool) (m : Nat) (e : Int) : (wideD s m e).integral way = .number s (way.cut s (m <<< e.toNat) (-e).toNat) 0 := by
  unfold wideD
  by_cases h0 : m = 0
  · subst h0
    rw [if_pos rfl]
    simp only [Datum.integral, Nat.zero_shiftLeft]
    have hz : ∀ d, way.cut s 0 d = 0 := fun d => by
      rw [cut_plain, Nat.zero_div]
      have : cutUp way s 0 d = false := by
        have hp : 0 < 2 ^ d := Nat.two_pow_pos d
        unfold cutUp
        rw [Nat.zero_mod]
        cases way
        · have : ¬ 2 ^ d = 0 := by omega
          simp
        · simp
        · simp
        · rfl
      rw [this]; rfl
    rw [hz, hz]
  · rw [if_neg h0]
    generalize 52 - m.log2 = k
    simp only [Datum.integral]
    congr 1
    rw [Nat.shiftLeft_eq, Nat.shiftLeft_eq]
    by_cases he : 0 ≤ e
    · obtain ⟨q, rfl⟩ : ∃ q : Nat, e = (q : Int) := ⟨e.toNat, by omega⟩
      rw [show (-(q : Int)).toNat = 0 by omega, Int.toNat_natCast]
      by_cases hk : k ≤ q
      · rw [show ((q : Int) - (k : Int)).toNat = q - k by omega, show (-((q : Int) - (k : Int))).toNat = 0 by omega, Nat.mul_assoc, ← Nat.pow_add, show k + (q - k) = q by omega]
      · rw [show ((q : Int) - (k : Int)).toNat = 0 by omega, show (-((q : Int) - (k : Int))).toNat = k - q by omega, Nat.pow_zero, Nat.mul_one]
        have := cut_scale way s (m * 2 ^ q) 0 (k - q)
        rw [Nat.mul_assoc, ← Nat.pow_add, show q + (k - q) = k by omega, Nat.zero_add] at this
        exact this
    · obtain ⟨q, rfl⟩ : ∃ q : Nat, e = -(q : Int) := ⟨(-e).toNat, by omega⟩
      rw [show (-(q : Int) - (k : Int)).toNat = 0 by omega, show (-(-(q : Int) - (k : Int))).toNat = q + k by omega, show (-(q : Int)).toNat = 0 by omega, show (-(-(q : Int))).toNat = q by omega, Nat.pow_zero, Nat.mul_one, Nat.mul_one]
      exact cut_scale way s m q k


theorem cut_zero (s : Bool) (m : Nat) (e : Int) : Toward.zero.cut s (m <<< e.toNat) (-e).toNat = mag m e := by
  rw [cut_plain, Nat.shiftLeft_eq]
  show m * 2 ^ e.toNat / 2 ^ (-e).toNat + 0 = mag m e
  unfold mag
  by_cases h : e < 0
  · rw [if_pos h, show e.toNat = 0 by omega, Nat.pow_zero, Nat.mul_one, Nat.add_zero]
  · rw [if_neg h, show (-e).toNat = 0 by omega, Nat.pow_zero, Nat.div_one, Nat.add_zero]

def bigE : Nat := 1074
def infE : Nat := 1024
theorem bigE_eq : bigE = 1074 := rfl
/-- 2 to the power of 1074: of it all floats are whole. -/
def BIG : Nat := 2 ^ bigE
/-- 2 to the power of 1024: an infinity. -/
def INFB : Nat := 2 ^ infE
theorem big_pos : 0 < BIG := Nat.two_pow_pos bigE
theorem big_add (q : Nat) : 2 ^ (q + 1074) = 2 ^ q * BIG := by
  rw [← bigE_eq]; exact Nat.pow_add 2 q bigE
theorem big_sub (q : Nat) (h : q ≤ 1074) : BIG = 2 ^ q * 2 ^ (1074 - q) := by
  have := Nat.pow_add 2 q (bigE - q)
  rw [show q + (bigE - q) = bigE by rw [bigE_eq]; omega] at this
  rw [← bigE_eq]; exact this

/-- The word stands for the whole number M with the sign s. -/
def Rd (s : Bool) (M tv : Nat) : Prop := ∃ (m : Nat) (e : Int), double.read tv = .number s m e ∧ -1074 ≤ e ∧ m < 9007199254740992 ∧ m * 2 ^ (e - (-1074)).toNat = M * BIG

theorem rd_write (s : Bool) (m : Nat) (e : Int) (hm : m < 9007199254740992) (h0 : 0 ≤ e) (h1 : e ≤ 900) : Rd s (m * 2 ^ e.toNat) (double.write (.number s m e)) := by
  obtain ⟨hr, hlt, hfin, hs⟩ := read_write_double s m e hm (by omega) h1
  have hp := read_fin fmt_double.sb fmt_double.fr fmt_double.lp hlt hfin
  have hpm := pm_lt 52 (double.write (.number s m e) % 9223372036854775808)
  generalize double.write (.number s m e) = tv at *
  refine ⟨_, _, hp.trans (by rw [hs]), ?_, hpm, ?_⟩
  · have := pe_eq 52 (-1074) (tv % 9223372036854775808); omega
  · rw [hr] at hp
    generalize pm 52 (tv % 9223372036854775808) = m' at *
    generalize pe 52 (-1074) (tv % 9223372036854775808) = e' at *
    unfold wideD at hp
    by_cases hz : m = 0
    · rw [if_pos hz] at hp
      injection hp with a1 a2 a3
      rw [← a2, hz, Nat.zero_mul, Nat.zero_mul, Nat.zero_mul]
    · rw [if_neg hz] at hp
      injection hp with a1 a2 a3
      have hk : 52 - m.log2 ≤ 52 := Nat.sub_le _ _
      generalize 52 - m.log2 = k at *
      obtain ⟨q, rfl⟩ : ∃ q : Nat, e = (q : Int) := ⟨e.toNat, by omega⟩
      rw [← a2, ← a3, Int.toNat_natCast, Nat.mul_assoc, Nat.mul_assoc, ← big_add, ← Nat.pow_add, show k + ((q : Int) - (k : Int) - (-1074)).toNat = q + 1074 by omega]

theorem scale_write (f : Format) (s : Bool) (m q : Nat) : f.write (.number s (m * 2 ^ q) 0) = f.write (.number s m (q : Int)) := by
  show f.nearest _ _ _ = f.nearest _ _ _
  rw [nearest_eq, nearest_eq]
  have := rungOf_scale f m (q : Int) q
  rw [show (q : Int) - (q : Int) = 0 by omega] at this
  rw [this]

theorem rd_mag (s : Bool) (m : Nat) (e : Int) (hm : m < 9007199254740992) (h1 : e ≤ 900) : Rd s (mag m e) (double.write (.number s (mag m e) 0)) := by
  unfold mag
  by_cases h : e < 0
  · rw [if_pos h]
    have h2 := Nat.div_le_self m (2 ^ (-e).toNat)
    have := rd_write s (m / 2 ^ (-e).toNat) 0 (by omega) (by decide) (by decide)
    rw [show ((0 : Int)).toNat = 0 from rfl, Nat.pow_zero, Nat.mul_one] at this
    exact this
  · rw [if_neg h, scale_write]
    rw [show (e.toNat : Int) = e by omega]
    exact rd_write s m e hm (by omega) h1

/-- What the cut of a float of 32 bits stands for. -/
theorem tv_32 {c : Nat} (hc : c < 2 * 2147483648) (h : c % 2147483648 < 2139095040) :
    Rd (decide (2147483648 ≤ c)) (mag (pm 23 (c % 2147483648)) (pe 23 (-149) (c % 2147483648))) (double.write ((double.read (vS c)).integral .zero)) := by
  rcases (vS_read hc (by omega)).1 with ⟨h1, h2, h3⟩ | ⟨h1, _, _⟩
  · have hb := single_bounds hc h1
    rw [h2, wide_integral, cut_zero]
    exact rd_mag _ _ _ hb.1 hb.2.2
  · omega

/-- What the cut of a float of 64 bits stands for. -/
theorem tv_64 {c : Nat} (hc : c < 2 * 9223372036854775808) (h : c % 9223372036854775808 < 9218868437227405312) :
    Rd (decide (9223372036854775808 ≤ c)) (mag (pm 52 (c % 9223372036854775808)) (pe 52 (-1074) (c % 9223372036854775808))) (double.write ((double.read c).integral .zero)) := by
  have hr := read_fin fmt_double.sb fmt_double.fr fmt_double.lp hc h
  have hm := pm_lt 52 (c % 9223372036854775808)
  have he := pe_eq 52 (-1074) (c % 9223372036854775808)
  by_cases h0 : 0 ≤ pe 52 (-1074) (c % 9223372036854775808)
  · have hk : kindOf 9218868437227405312 (c % 9223372036854775808) = 1 ∨ kindOf 9218868437227405312 (c % 9223372036854775808) = 2 := by
      by_cases hz : c % 9223372036854775808 = 0
      · exact .inl (kind1.2 hz)
      · exact .inr (kind2.2 ⟨hz, h⟩)
    rw [whole_big fmt_double hc hk h0]
    refine ⟨_, _, hr, by omega, hm, ?_⟩
    unfold mag
    generalize pe 52 (-1074) (c % 9223372036854775808) = e at *
    obtain ⟨q, rfl⟩ : ∃ q : Nat, e = (q : Int) := ⟨e.toNat, by omega⟩
    rw [if_neg (by omega), Int.toNat_natCast, Nat.mul_assoc, ← big_add, show ((q : Int) - (-1074)).toNat = q + 1074 by omega]
  · rw [hr]
    simp only [Datum.integral]
    rw [cut_zero]
    exact rd_mag _ _ _ hm (by omega)

/-- The word stands for a whole number, or for an infinity, which is beyond every integer. -/
def Ro (s : Bool) (M tv : Nat) : Prop := Rd s M tv ∨ (double.read tv = .infinity s ∧ M = INFB)
/-- A constant of the document's. -/
def Kc (kw : Nat) (t : Bool) (K : Nat) : Prop := ∃ (n : Nat) (j : Int), double.read kw = .number t n j ∧ -1074 ≤ j ∧ n * 2 ^ (j - (-1074)).toNat = K * BIG

theorem sgn_scale (s t : Bool) (A B P : Nat) (hP : 0 < P) : compare (sgn s (A * P)) (sgn t (B * P)) = compare (sgn s A) (sgn t B) := by
  have key : ∀ (s : Bool) (A : Nat), sgn s (A * P) = sgn s A * (P : Int) := fun s A => by
    unfold sgn; cases s
    · simp
    · simp only [if_true]; rw [Int.natCast_mul, Int.neg_mul]
  rw [key, key]
  have hp : (0 : Int) < (P : Int) := by omega
  refine compare_congr ?_ ?_
  · exact ⟨fun h => Int.lt_of_mul_lt_mul_right h (Int.le_of_lt hp), fun h => Int.mul_lt_mul_of_pos_right h hp⟩
  · exact ⟨fun h => Int.eq_of_mul_eq_mul_right (by omega) h, fun h => by rw [h]⟩

theorem order_k {s t : Bool} {M tv kw K : Nat} (h : Ro s M tv) (hk : Kc kw t K) (hK : K < INFB) : double.order tv kw = some (compare (sgn s M) (sgn t K)) := by
  obtain ⟨n, j, k1, k2, k3⟩ := hk
  rcases h with ⟨m, e, h1, h2, _, h3⟩ | ⟨h1, h2⟩
  · unfold Format.order
    rw [h1, k1, order_num s t m n e j (-1074) h2 k2, h3, k3, sgn_scale s t M K _ big_pos]
  · unfold Format.order
    rw [h1, k1]
    show some (if s then Ordering.lt else Ordering.gt) = _
    rw [h2]
    generalize INFB = X at *
    cases s <;> cases t
    · exact congrArg some (cmp_gt (by unfold sgn; simp only [Bool.false_eq_true, if_false]; omega)).symm
    · exact congrArg some (cmp_gt (by unfold sgn; simp only [Bool.false_eq_true, if_false, if_true]; omega)).symm
    · exact congrArg some (cmp_lt (by unfold sgn; simp only [Bool.false_eq_true, if_false, if_true]; omega)).symm
    · exact congrArg some (cmp_lt (by unfold sgn; simp only [if_true]; omega)).symm

theorem exact_mag {m M : Nat} {e : Int} (h0 : -1074 ≤ e) (h : m * 2 ^ (e - (-1074)).toNat = M * BIG) : mag m e = M := by
  unfold mag
  by_cases he : e < 0
  · rw [if_pos he]
    obtain ⟨q, rfl⟩ : ∃ q : Nat, e = -(q : Int) := ⟨(-e).toNat, by omega⟩
    rw [Int.neg_neg, Int.toNat_natCast]
    rw [show (-(q : Int) - (-1074)).toNat = 1074 - q by omega] at h
    rw [big_sub q (by omega), ← Nat.mul_assoc] at h
    have h2 := Nat.eq_of_mul_eq_mul_right (Nat.two_pow_pos (1074 - q)) h
    rw [h2]
    exact Nat.mul_div_cancel _ (Nat.two_pow_pos q)
  · rw [if_neg he]
    obtain ⟨q, rfl⟩ : ∃ q : Nat, e = (q : Int) := ⟨e.toNat, by omega⟩
    rw [Int.toNat_natCast]
    rw [show ((q : Int) - (-1074)).toNat = q + 1074 by omega, big_add, ← Nat.mul_assoc] at h
    exact Nat.eq_of_mul_eq_mul_right big_pos h

theorem toInt_zero (s : Bool) (m : Nat) (e : Int) : (Datum.number s m e).toInt .zero = some (sgn s (mag m e)) := by
  unfold Datum.toInt
  simp only [Datum.integral]
  rw [cut_zero]
  unfold signed sgn
  simp only [Nat.shiftLeft_zero]

theorem conv_k {s : Bool} {M tv : Nat} (h : Rd s M tv) (h1 : -9223372036854775808 ≤ sgn s M) (h2 : sgn s M ≤ 9223372036854775807) : floatToIntVal .f64 tv .i64 = some (sgn s M) := by
  obtain ⟨m, e, hr, h0, _, h3⟩ := h
  have hm := exact_mag h0 h3
  unfold floatToIntVal
  show (match (double.read tv).toInt .zero with | some n => if IntKind.i64.min ≤ n ∧ n ≤ IntKind.i64.max then some n else none | none => none) = some (sgn s M)
  rw [hr, toInt_zero, hm]
  simp only []
  rw [if_pos ⟨h1, h2⟩]

theorem sub_num (Y M : Nat) (hM : Y * 2048 = M) (h : 4503599627370496 ≤ Y) : (Y - 4503599627370496) * 2048 = M - 9223372036854775808 := by rw [Nat.sub_mul, hM]

/-- A number of at least 2^63 and below 2^64, less 2^63. -/
theorem sub_k {M tv : Nat} (h : Rd false M tv) (h1 : 9223372036854775808 ≤ M) (h2 : M < 18446744073709551616) :
    ∃ r, double.sub tv 4890909195324358656 = some r ∧ floatToIntVal .f64 r .i64 = some ((M : Int) - 9223372036854775808) := by
  obtain ⟨m, e, hr, h0, hm, h3⟩ := h
  have hmag := exact_mag h0 h3
  have he : 11 ≤ e := by
    rcases Int.lt_or_le e 11 with h4 | h4
    · exfalso
      unfold mag at hmag
      by_cases hn : e < 0
      · rw [if_pos hn] at hmag
        have := Nat.div_le_self m (2 ^ (-e).toNat)
        omega
      · rw [if_neg hn] at hmag
        have h5 : (2 : Nat) ^ e.toNat ≤ 2 ^ 10 := Nat.pow_le_pow_right (by decide) (by omega)
        have h6 : m * 2 ^ e.toNat ≤ m * 2 ^ 10 := Nat.mul_le_mul_left _ h5
        have c : (2 : Nat) ^ 10 = 1024 := by decide
        rw [c] at h6
        omega
    · exact h4
  have hk : double.read 4890909195324358656 = .number false 4503599627370496 11 := by decide +kernel
  obtain ⟨q, rfl⟩ : ∃ q : Nat, e = (q : Int) + 11 := ⟨(e - 11).toNat, by omega⟩
  have hM : m * 2 ^ q * 2048 = M := by
    unfold mag at hmag
    rw [if_neg (by omega), show ((q : Int) + 11).toNat = q + 11 by omega, Nat.pow_add, ← Nat.mul_assoc] at hmag
    exact hmag
  obtain ⟨Y, hY⟩ : ∃ Y : Nat, Y = m * 2 ^ q := ⟨_, rfl⟩
  rw [← hY] at hM
  have hY1 : 4503599627370496 ≤ Y := by omega
  have hY2 : Y < 9007199254740992 := by omega
  refine ⟨double.write (.number false (Y - 4503599627370496) 11), ?_, ?_⟩
  · unfold Format.sub
    rw [hr, hk]
    simp only [Datum.opposite, Datum.sum, Option.map_some]
    have hb : min ((q : Int) + 11) 11 = 11 := by omega
    rw [hb]
    have ht : signed false m ((q : Int) + 11 - 11).toNat + signed (!false) 4503599627370496 ((11 : Int) - 11).toNat = ((Y - 4503599627370496 : Nat) : Int) := by
      unfold signed
      rw [show ((q : Int) + 11 - 11).toNat = q by omega, show ((11 : Int) - 11).toNat = 0 by decide, Nat.shiftLeft_eq, ← hY]
      simp only [Bool.not_false, if_true, Nat.shiftLeft_zero, Bool.false_eq_true, if_false]
      omega
    have hX : ∀ D : Nat, (if ((D : Nat) : Int) = 0 then (false && !false) else decide (((D : Nat) : Int) < 0)) = false := fun D => by
      by_cases hz : ((D : Nat) : Int) = 0
      · rw [if_pos hz]; rfl
      · rw [if_neg hz]; exact decide_eq_false (by omega)
    rw [ht, Int.natAbs_natCast, hX]
  · have hb := rd_write false (Y - 4503599627370496) 11 (by omega) (by decide) (by decide)
    have e1 : (Y - 4503599627370496) * 2 ^ ((11 : Int)).toNat = M - 9223372036854775808 := by
      rw [show (2 : Nat) ^ ((11 : Int)).toNat = 2048 by decide]
      exact sub_num Y M hM hY1
    rw [e1] at hb
    have hs : sgn false (M - 9223372036854775808) = (M : Int) - 9223372036854775808 := by unfold sgn; simp; omega
    have := conv_k hb (by rw [hs]; omega) (by rw [hs]; omega)
    rw [this, hs]

theorem kc_0 : Kc 0 false 0 := ⟨0, -1074, by decide +kernel, by decide, by rw [Nat.zero_mul, Nat.zero_mul]⟩
theorem kc_31 : Kc 4746794007248502784 false 2147483648 := ⟨4503599627370496, -21, by decide +kernel, by decide, by decide +kernel⟩
theorem kc_n31 : Kc 13970166044103278592 true 2147483648 := ⟨4503599627370496, -21, by decide +kernel, by decide, by decide +kernel⟩
theorem kc_32 : Kc 4751297606875873280 false 4294967296 := ⟨4503599627370496, -20, by decide +kernel, by decide, by decide +kernel⟩
theorem kc_63 : Kc 4890909195324358656 false 9223372036854775808 := ⟨4503599627370496, 11, by decide +kernel, by decide, by decide +kernel⟩
theorem kc_n63 : Kc 14114281232179134464 true 9223372036854775808 := ⟨4503599627370496, 11, by decide +kernel, by decide, by decide +kernel⟩
theorem kc_64 : Kc 4895412794951729152 false 18446744073709551616 := ⟨4503599627370496, 12, by decide +kernel, by decide, by decide +kernel⟩
end
/-- A number made whole, by what it stands for; of a NaN that is told by a drawn question. -/
def toI (q : Question) (way : Ieee.Toward) (v : Nat) (d : Ieee.Datum) : Sem Value :=
  match d with
  | .nan s t => if FloatKind.f64.format.quiet t = t then pure (.float .f64 v) else do
      let n ← choose q
      pure (.float .f64 (if n == 1 then v else FloatKind.f64.encode (.nan s (FloatKind.f64.format.quiet t))))
  | d => pure (.float .f64 (FloatKind.f64.encode (d.integral way)))

theorem toI_eq (name : String) (way : Ieee.Toward) (v : Nat) : ∃ q, q.forced = false ∧ Extern.MathFloor.toIntegral name way #[.float .f64 v] = toI q way v (FloatKind.f64.decode v) := by refine ⟨_, ?_, rfl⟩; rfl

theorem integral_num (name : String) (way : Ieee.Toward) (v : Nat) (hv : v % 9223372036854775808 ≤ 9218868437227405312) (w : World) :
    (Extern.MathFloor.toIntegral name way #[.float .f64 v]).run Tryz.prog w = .ok (.float .f64 (Ieee.double.write ((Ieee.double.read v).integral way))) w := by
  obtain ⟨q, -, h⟩ := toI_eq name way v
  rw [h]
  have hn : ∀ s t, Ieee.double.read v ≠ .nan s t := fun s t h' => by
    unfold Ieee.Format.read at h'
    simp only [] at h'
    split at h'
    · cases h'
    · split at h'
      · cases h'
      · split at h'
        · cases h'
        · rename_i g1 g2 g3
          have g2' : ¬ v % 9223372036854775808 < 9218868437227405312 := g2
          have g3' : ¬ v % 9223372036854775808 = 9218868437227405312 := g3
          omega
  show (toI q way v (Ieee.double.read v)).run Tryz.prog w = _
  cases hd : Ieee.double.read v with
  | nan s t => exact absurd hd (hn s t)
  | number s m e => rfl
  | infinity s => rfl


end Go.Proofs.YtlhakbkdlgejpaaGreatDoor.Fl
