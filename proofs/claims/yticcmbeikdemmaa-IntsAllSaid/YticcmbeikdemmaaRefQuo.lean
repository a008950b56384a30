/-
  The contract of the document's own quo: quotient and rest, bit by bit. Condition: what divides is not 0.
-/
import Derived.Test.YticcmbeikdemmaaRefOf
namespace Go.Proofs.Yticcmbeikdemmaa
open Go.RowKit

theorem list_64 (a : Nat) (ha : a < 18446744073709551616) (w : World) : Calls Try.prog 35 #[.int .i64 64, .int .u64 a] w (ListPost w 64 a) := list_any 64 (Nat.le_refl _) a ha w

theorem quo_step {A b q r t : Nat} (hb : b ≠ 0) (hq : q = A / b) (hr : r = A % b) (ht : t ≤ 1) :
    (b ≤ 2 * r + t → (2 * A + t) / b = 2 * q + 1 ∧ (2 * A + t) % b = 2 * r + t - b) ∧ (2 * r + t < b → (2 * A + t) / b = 2 * q ∧ (2 * A + t) % b = 2 * r + t) := by
  have hd := Nat.div_add_mod A b
  have hl := Nat.mod_lt A (show 0 < b by omega)
  rw [← hq, ← hr] at hd
  rw [← hr] at hl
  have e : 2 * A + t = b * (2 * q) + (2 * r + t) := by
    rw [← hd, Nat.mul_add, ← Nat.mul_assoc, Nat.mul_comm 2 b, Nat.mul_assoc]; omega
  constructor
  · intro h
    have e2 : 2 * A + t = b * (2 * q + 1) + (2 * r + t - b) := by rw [e, Nat.mul_add, Nat.mul_one]; omega
    rw [e2]
    constructor
    · rw [Nat.mul_add_div (by omega), Nat.div_eq_of_lt (by omega)]
    · rw [Nat.mul_add_mod, Nat.mod_eq_of_lt (by omega)]
  · intro h
    rw [e]
    constructor
    · rw [Nat.mul_add_div (by omega), Nat.div_eq_of_lt h, Nat.add_zero]
    · rw [Nat.mul_add_mod, Nat.mod_eq_of_lt h]

theorem half_bit (a k : Nat) : a / 2 ^ k = 2 * (a / 2 ^ (k + 1)) + btN a k := by
  unfold btN
  rw [Nat.pow_succ, ← Nat.div_div_eq_div_mul]
  omega

def QuoPost (w : World) (a b : Nat) (e : Ending) (w' : World) : Prop := e = .returned (.tuple #[.int .u64 (a / b : Nat), .int .u64 (a % b : Nat)]) ∧ Below w.heap.size w w'

set_option maxHeartbeats 1600000 in
theorem quo_any (a b : Nat) (ha : a < 18446744073709551616) (hb : b ≠ 0) (hb2 : b < 18446744073709551616) (w : World) :
    Calls Try.prog 45 #[.int .u64 a, .int .u64 b] w (QuoPost w a b) := by
  have HB := hid (And.intro hb hb2)
  have HL := hid (list_64 a ha w)
  have HA := hid ha
  clear ha hb hb2
  go_enter Try.func45, Try.ntmps45
  go_wp2_with (go_at_call 35; refine HL.out.mono ?_; rintro e w1 ⟨v1, rfl, hown1, hB1⟩)
  obtain ⟨g, cap, rfl⟩ := owned_at hown1 (by decide)
  have HW := hid hown1
  have HB1 := hid hB1
  clear hown1 hB1
  go_loop [6, 7, 9] (fun vq vr vi => ∃ m : Nat, m ≤ 64 ∧ vi = .int .i64 ((m : Int) - 1) ∧ vq = .int .u64 ((a / 2 ^ m / b : Nat) : Int) ∧ vr = .int .u64 ((a / 2 ^ m % b : Nat) : Int)) (fun _ _ vi => (intOf vi + 1).toNat)
  case atStart =>
    have e : a / 2 ^ 64 = 0 := Nat.div_eq_of_lt HA.out
    exact ⟨64, Nat.le_refl _, rfl, by rw [e, Nat.zero_div]; rfl, by rw [e, Nat.zero_mod]; rfl⟩
  case round =>
    obtain ⟨m, hm, rfl, rfl, rfl⟩ := hrel
    by_cases h0 : m = 0
    · subst h0
      rw [Nat.pow_zero, Nat.div_one]
      go_wp2
      go_ret2
      exact ⟨rfl, HB1.out⟩
    · obtain ⟨k, rfl⟩ : ∃ k, m = k + 1 := ⟨m - 1, by omega⟩
      have ek : ((k + 1 : Nat) : Int) - 1 = (k : Int) := by omega
      have hc : w1.cell? ⟨g, k, none⟩ = some (.int .u64 (btN a k : Nat)) := by
        rw [HW.out.cellAt k (by omega), fc_get (by omega)]
      have ht := btN_le a k
      have hh := half_bit a k
      obtain ⟨hb, hb2⟩ := HB.out
      rw [ek]
      have hstep := quo_step (A := a / 2 ^ (k + 1)) hb rfl rfl ht
      rw [← hh] at hstep
      have hql : a / 2 ^ (k + 1) / b ≤ a / 2 ^ (k + 1) := Nat.div_le_self _ _
      have hrl : a / 2 ^ (k + 1) % b < b := Nat.mod_lt _ (by omega)
      have hal : 2 * (a / 2 ^ (k + 1)) ≤ a := by
        have := Nat.div_le_self a (2 ^ k)
        omega
      have ha := HA.out
      obtain ⟨q, hq⟩ : ∃ q : Nat, q = a / 2 ^ (k + 1) / b := ⟨_, rfl⟩
      obtain ⟨r, hr⟩ : ∃ r : Nat, r = a / 2 ^ (k + 1) % b := ⟨_, rfl⟩
      obtain ⟨c, hce⟩ : ∃ c : Nat, c = btN a k := ⟨_, rfl⟩
      rw [← hq] at hql
      rw [← hr] at hrl
      rw [← hq, ← hr, ← hce] at hstep
      rw [← hce] at hc ht
      rw [← hq, ← hr]
      have hw3 : IntKind.u64.wrap ((q : Int) * 2) = ((2 * q : Nat) : Int) := by rw [IntKind.wrap_u64]; omega
      by_cases hov : 9223372036854775808 ≤ r
      · have hd : decide (9223372036854775808 ≤ (r : Int)) = true := by simp; omega
        have hw1 : IntKind.u64.wrap ((r : Int) * 2) = ((2 * r - 18446744073709551616 : Nat) : Int) := by rw [IntKind.wrap_u64]; omega
        obtain ⟨B, hB⟩ : ∃ B : Nat, B = 2 * r - 18446744073709551616 := ⟨_, rfl⟩
        have hw2 : IntKind.u64.wrap ((B : Int) + (c : Int)) = ((2 * r + c - 18446744073709551616 : Nat) : Int) := by rw [IntKind.wrap_u64]; omega
        obtain ⟨C, hC⟩ : ∃ C : Nat, C = 2 * r + c - 18446744073709551616 := ⟨_, rfl⟩
        have hw4 : IntKind.u64.wrap ((C : Int) - (b : Int)) = ((2 * r + c - b : Nat) : Int) := by rw [IntKind.wrap_u64]; omega
        obtain ⟨D, hD⟩ : ∃ D : Nat, D = 2 * q := ⟨_, rfl⟩
        have hw5 : IntKind.u64.wrap ((D : Int) + 1) = ((2 * q + 1 : Nat) : Int) := by rw [IntKind.wrap_u64]; omega
        have hs := hstep.1 (by omega)
        rw [← hB] at hw1
        rw [← hC] at hw2
        rw [← hD] at hw3
        rw [← hs.2] at hw4
        rw [← hs.1] at hw5
        clear hstep hql hrl hal ha hq hr hce hB hC hD hs h0 ek hh hb hb2 ht hov
        go_wp2
        go_round
        case rel => exact ⟨k, by omega, rfl, rfl, rfl⟩
        case measure => simp [intOf]
      · have hd : decide (9223372036854775808 ≤ (r : Int)) = false := by simp; omega
        have hw1 : IntKind.u64.wrap ((r : Int) * 2) = ((2 * r : Nat) : Int) := by rw [IntKind.wrap_u64]; omega
        obtain ⟨B, hB⟩ : ∃ B : Nat, B = 2 * r := ⟨_, rfl⟩
        have hw2 : IntKind.u64.wrap ((B : Int) + (c : Int)) = ((2 * r + c : Nat) : Int) := by rw [IntKind.wrap_u64]; omega
        obtain ⟨C, hC⟩ : ∃ C : Nat, C = 2 * r + c := ⟨_, rfl⟩
        by_cases hge : b ≤ 2 * r + c
        · have hd2 : decide (b ≤ C) = true := by simp; omega
          have hw4 : IntKind.u64.wrap ((C : Int) - (b : Int)) = ((2 * r + c - b : Nat) : Int) := by rw [IntKind.wrap_u64]; omega
          obtain ⟨D, hD⟩ : ∃ D : Nat, D = 2 * q := ⟨_, rfl⟩
          have hw5 : IntKind.u64.wrap ((D : Int) + 1) = ((2 * q + 1 : Nat) : Int) := by rw [IntKind.wrap_u64]; omega
          have hs := hstep.1 (by omega)
          rw [← hB] at hw1
          rw [← hC] at hw2
          rw [← hD] at hw3
          rw [← hs.2] at hw4
          rw [← hs.1] at hw5
          clear hstep hql hrl hal ha hq hr hce hB hC hD hs h0 ek hh hb hb2 ht hov hge
          go_wp2
          go_round
          case rel => exact ⟨k, by omega, rfl, rfl, rfl⟩
          case measure => simp [intOf]
        · have hd2 : decide (b ≤ C) = false := by simp; omega
          have hs := hstep.2 (by omega)
          have hq2 : ((a / 2 ^ k / b : Nat) : Int) = ((2 * q : Nat) : Int) := by rw [hs.1]
          have hr2 : ((a / 2 ^ k % b : Nat) : Int) = (C : Int) := by rw [hs.2, hC]
          obtain ⟨D, hD⟩ : ∃ D : Nat, D = 2 * q := ⟨_, rfl⟩
          rw [← hD] at hw3 hq2
          have HQ := hid hq2
          have HR := hid hr2
          rw [← hB] at hw1
          rw [← hC] at hw2
          clear hstep hql hrl hal ha hq hr hce hB hC hD hs h0 ek hh hb hb2 ht hov hge hq2 hr2
          go_wp2
          go_round
          case rel => exact ⟨k, by omega, rfl, by rw [HQ.out], by rw [HR.out]⟩
          case measure => simp [intOf]

end Go.Proofs.Yticcmbeikdemmaa
