/-
  The contracts of the program's reversed and count. Condition: the bits are 8, 16, 32 or 64.
-/
import Derived.Test.YticcmbeikdemmaaShift
import Derived.Test.YticcmbeikdemmaaUnMath
namespace Go.Proofs.Yticcmbeikdemmaa
open Go.RowKit

set_option maxHeartbeats 800000 in
theorem count_any (a : Nat) (ha : a < 18446744073709551616) (w : World) :
    Calls Try.prog 41 #[.int .u64 a] w fun e w' => e = .returned (.int .u64 (pop a : Nat)) ∧ w = w' := by
  have hp : pop a ≤ 64 := pop_le 64 a ha
  have HP := hid (show pop a ≤ 64 ∧ a < 18446744073709551616 from ⟨hp, ha⟩)
  clear hp ha
  go_enter Try.func41, Try.ntmps41
  go_wp2
  go_loop [0, 3] (fun va vn => ∃ x c : Nat, va = .int .u64 (x : Int) ∧ vn = .int .u64 (c : Int) ∧ Hid (pop x + c = pop a ∧ x < 18446744073709551616)) (fun va _ => pop (intOf va).toNat)
  case atStart => exact ⟨a, 0, rfl, rfl, hid ⟨by omega, HP.out.2⟩⟩
  case round =>
    obtain ⟨x, c, rfl, rfl, H⟩ := hrel
    by_cases hx : x = 0
    · subst hx
      have e : c = pop a := by have := H.out.1; rw [pop_zero] at this; omega
      subst e
      clear H
      go_wp2
      go_ret
      exact ⟨rfl, rfl⟩
    · have hne : ((x : Int) != 0) = true := by simp; omega
      have hne2 : ((x : Int) == 0) = false := by simp; omega
      have h1 := H.out.2
      have h2 := pop_less hx
      have h3 := H.out.1
      have h4 := HP.out.1
      have hw : IntKind.u64.wrap ((x : Int) - 1) = ((x - 1 : Nat) : Int) := by rw [IntKind.wrap_u64]; omega
      have hand := bits_and_u64_nat x (x - 1) h1 (by omega)
      have hc : IntKind.u64.wrap ((c : Int) + 1) = ((c + 1 : Nat) : Int) := by rw [IntKind.wrap_u64]; omega
      have hlt : x &&& (x - 1) < 18446744073709551616 := Nat.and_lt_two_pow (n := 64) _ (by omega)
      obtain ⟨y, hy⟩ : ∃ y : Nat, y = x - 1 := ⟨_, rfl⟩
      obtain ⟨z, hz⟩ : ∃ z : Nat, z = x &&& (x - 1) := ⟨_, rfl⟩
      obtain ⟨d, hd⟩ : ∃ d : Nat, d = c + 1 := ⟨_, rfl⟩
      rw [← hz] at h2 hand hlt
      rw [← hy] at hw hand
      rw [← hd] at hc
      have H2 := hid (show pop z + 1 = pop x ∧ pop z + d = pop a ∧ z < 18446744073709551616 from ⟨h2, by omega, hlt⟩)
      clear h1 h2 h3 h4 hlt hy hz hd H hx
      go_wp2
      go_round
      case rel => exact ⟨z, d, rfl, rfl, hid ⟨H2.out.2.1, H2.out.2.2⟩⟩
      case measure =>
        have := H2.out.1
        simp [intOf]
        omega

set_option maxHeartbeats 800000 in
theorem reversed_any (n : Nat) (hn : Okn n) (a : Nat) (ha : a < 18446744073709551616) (w : World) :
    Calls Try.prog 40 #[.int .i64 n, .int .u64 a] w fun e w' => e = .returned (.int .u64 (revR n a : Nat)) ∧ w = w' := by
  have hn8 := hn.le
  have HA := hid ha
  clear ha hn
  go_enter Try.func40, Try.ntmps40
  go_wp2
  go_loop [1, 5, 7] (fun va vo vk => ∃ k : Nat, k ≤ n ∧ vk = .int .i64 k ∧ va = .int .u64 ((a / 2 ^ k : Nat) : Int) ∧ vo = .int .u64 ((revR k a : Nat) : Int)) (fun _ _ vk => n - (intOf vk).toNat)
  case atStart => exact ⟨0, Nat.zero_le _, rfl, by simp, rfl⟩
  case round =>
    obtain ⟨k, hk, rfl, rfl, rfl⟩ := hrel
    by_cases hlt : k < n
    · have hr := revR_lt k a
      have hr64 : 2 * 2 ^ k ≤ 18446744073709551616 := by
        have : 2 ^ (k + 1) ≤ 2 ^ 64 := Nat.pow_le_pow_right (by decide) (by omega)
        rw [Nat.pow_succ] at this
        omega
      have hd : a / 2 ^ k ≤ a := Nat.div_le_self _ _
      have ha := HA.out
      have hx : a / 2 ^ (k + 1) = a / 2 ^ k / 2 := by rw [Nat.pow_succ, Nat.div_div_eq_div_mul]
      have hs : revR (k + 1) a = 2 * revR k a + a / 2 ^ k % 2 := rfl
      obtain ⟨x, hxe⟩ : ∃ x : Nat, x = a / 2 ^ k := ⟨_, rfl⟩
      obtain ⟨r, hre⟩ : ∃ r : Nat, r = revR k a := ⟨_, rfl⟩
      rw [← hxe] at hd hx hs ⊢
      rw [← hre] at hr hs ⊢
      have hw : IntKind.u64.wrap ((r : Int) * 2) = ((2 * r : Nat) : Int) := by rw [IntKind.wrap_u64]; omega
      have hand : bits .and .u64 (x : Int) 1 = ((x % 2 : Nat) : Int) := by
        have := bits_and_u64_nat x 1 (by omega) (by decide)
        rw [Nat.and_one_is_mod] at this
        exact this
      have hor : bits .or .u64 ((2 * r : Nat) : Int) ((x % 2 : Nat) : Int) = ((2 * r + x % 2 : Nat) : Int) := by
        rw [bits_or_u64_nat _ _ (by omega) (by omega)]
        have := Nat.two_pow_add_eq_or_of_lt (i := 1) (b := x % 2) (by omega) r
        simp at this
        rw [← this]
      obtain ⟨t, ht⟩ : ∃ t : Nat, t = 2 * r := ⟨_, rfl⟩
      obtain ⟨b, hb⟩ : ∃ b : Nat, b = x % 2 := ⟨_, rfl⟩
      obtain ⟨q, hq⟩ : ∃ q : Nat, q = 2 * r + x % 2 := ⟨_, rfl⟩
      rw [← hq, ← ht, ← hb] at hor
      rw [← ht] at hw
      rw [← hb] at hand
      rw [← hq] at hs
      have hdiv : (x : Int) / 2 = ((x / 2 : Nat) : Int) := by simp
      rw [← hx] at hdiv
      have HS := hid hs
      clear hr hr64 hd ha hx hs hxe hre ht hb hq
      go_wp2
      go_round
      case rel => exact ⟨k + 1, by omega, by go_num, rfl, by rw [HS.out]⟩
      case measure => simp [intOf]; omega
    · obtain rfl : k = n := by omega
      go_wp2
      go_ret
      exact ⟨rfl, rfl⟩

end Go.Proofs.Yticcmbeikdemmaa
