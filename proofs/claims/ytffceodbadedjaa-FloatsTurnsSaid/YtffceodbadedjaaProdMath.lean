/-
  The contract of the program's multiplied; products on plain numbers. Condition: the words are below 2^64.
-/
import Derived.Test.YtffceodbadedjaaRound
import Derived.Test.YtffceodbadedjaaParts
import Derived.Test.YtffceodbadedjaaOpMath
set_option linter.unusedSimpArgs false
set_option linter.unusedVariables false
namespace Go.Proofs.Ytffceodbadedjaa
open Ieee
/-- The upper half of a product, by halves. -/
theorem mul_halves (a b : Nat) : a * b / 18446744073709551616 =
    (a / 4294967296) * (b / 4294967296) + ((a / 4294967296) * (b % 4294967296) + (a % 4294967296) * (b % 4294967296) / 4294967296) / 4294967296 +
      ((a % 4294967296) * (b / 4294967296) + ((a / 4294967296) * (b % 4294967296) + (a % 4294967296) * (b % 4294967296) / 4294967296) % 4294967296) / 4294967296 := by
  have ha := Nat.div_add_mod a 4294967296
  have hb := Nat.div_add_mod b 4294967296
  generalize a / 4294967296 = a1 at *
  generalize a % 4294967296 = a0 at *
  generalize b / 4294967296 = b1 at *
  generalize b % 4294967296 = b0 at *
  have : a * b = 18446744073709551616 * (a1 * b1) + 4294967296 * (a1 * b0) + 4294967296 * (a0 * b1) + a0 * b0 := by
    rw [← ha, ← hb, Nat.add_mul, Nat.mul_add, Nat.mul_add]
    have e1 : 4294967296 * a1 * (4294967296 * b1) = 18446744073709551616 * (a1 * b1) := by rw [Nat.mul_mul_mul_comm]
    have e2 : 4294967296 * a1 * b0 = 4294967296 * (a1 * b0) := Nat.mul_assoc ..
    have e3 : a0 * (4294967296 * b1) = 4294967296 * (a0 * b1) := Nat.mul_left_comm ..
    rw [e1, e2, e3]
    omega
  rw [this]
  generalize a1 * b1 = p at *
  generalize a1 * b0 = q at *
  generalize a0 * b1 = r at *
  generalize a0 * b0 = s at *
  omega

/-- The product of two numbers moved up to 64 bits. -/
theorem prod_math {f : Format} (hP : f.fractionBits ≤ 52) {m1 m2 j1 j2 : Nat} (e1 e2 : Int) (h1 : m1 ≠ 0 → 9223372036854775808 ≤ m1 * 2 ^ j1) (h2 : m2 ≠ 0 → 9223372036854775808 ≤ m2 * 2 ^ j2) :
    rungR f (m1 * 2 ^ j1 * (m2 * 2 ^ j2) / 18446744073709551616) (e1 - j1 + (e2 - j2) + 64) (decide (m1 * 2 ^ j1 * (m2 * 2 ^ j2) % 18446744073709551616 ≠ 0)) = rungOf f (m1 * m2) (e1 + e2) := by
  have key := rungR_jam f (m1 * 2 ^ j1 * (m2 * 2 ^ j2)) 64 (e1 - j1 + (e2 - j2)) (by
    rw [show (2 : Nat) ^ 64 = 18446744073709551616 by decide]
    intro hne
    have hm1 : m1 ≠ 0 := by intro h; rw [h] at hne; simp at hne
    have hm2 : m2 ≠ 0 := by intro h; rw [h] at hne; simp at hne
    have hle : 9223372036854775808 * 9223372036854775808 ≤ m1 * 2 ^ j1 * (m2 * 2 ^ j2) := Nat.mul_le_mul (h1 hm1) (h2 hm2)
    have h53 : (2 : Nat) ^ (f.fractionBits + 1) ≤ 2 ^ 53 := Nat.pow_le_pow_right (by decide) (by omega)
    have c53 : (2 : Nat) ^ 53 = 9007199254740992 := by decide
    generalize m1 * 2 ^ j1 * (m2 * 2 ^ j2) = p at *
    omega)
  rw [show (2 : Nat) ^ 64 = 18446744073709551616 by decide] at key
  rw [show e1 - (j1 : Int) + (e2 - (j2 : Int)) + 64 = e1 - j1 + (e2 - j2) + ((64 : Nat) : Int) by omega, key]
  have hs := rungOf_scale f (m1 * m2) (e1 + e2) (j1 + j2)
  rw [Nat.mul_mul_mul_comm, ← Nat.pow_add, show e1 - (j1 : Int) + (e2 - (j2 : Int)) = e1 + e2 - ((j1 + j2 : Nat) : Int) by omega]
  exact hs


open Go.RowKit

theorem pwrap_in (x : Int) (h : -9223372036854775808 ≤ x) (h2 : x ≤ 9223372036854775807) : wrap64 x = x := by unfold wrap64; omega

theorem pr_fact (x y p : Nat) (h : p = x * y) (hp : p < 18446744073709551616) : IntKind.u64.wrap ((x : Int) * (y : Int)) = (p : Int) := by
  have : (x : Int) * (y : Int) = (p : Int) := by rw [h, Int.natCast_mul]
  rw [this, IntKind.wrap_u64]; omega
theorem ad_fact (x y p : Nat) (h : p = x + y) (hp : p < 18446744073709551616) : IntKind.u64.wrap ((x : Int) + (y : Int)) = (p : Int) := by
  rw [IntKind.wrap_u64]; omega
theorem small_pr (x y : Nat) (hx : x < 4294967296) (hy : y < 4294967296) : x * y ≤ 18446744065119617025 := Nat.mul_le_mul (show x ≤ 4294967295 by omega) (show y ≤ 4294967295 by omega)
theorem low_fact (x y : Nat) : IntKind.u64.wrap ((x : Int) * (y : Int)) = ((x * y % 18446744073709551616 : Nat) : Int) := by
  rw [IntKind.wrap_u64, Int.natCast_emod, Int.natCast_mul]; rfl

set_option maxHeartbeats 1600000 in
theorem multiplied_any (a b : Nat) (ha : a < 18446744073709551616) (hb : b < 18446744073709551616) (w : World) :
    Calls Try.prog 78 #[.int .u64 (a : Int), .int .u64 (b : Int)] w fun e w' => e = .returned (.tuple #[.int .u64 ((a * b / 18446744073709551616 : Nat) : Int), .int .u64 ((a * b % 18446744073709551616 : Nat) : Int)]) ∧ w = w' := by
  have hm := mul_halves a b
  have hlow := low_fact a b
  have hhi : a * b / 18446744073709551616 < 18446744073709551616 := by
    rw [Nat.div_lt_iff_lt_mul (by decide)]
    exact Nat.mul_lt_mul_of_le_of_lt (Nat.le_of_lt ha) hb (by decide)
  obtain ⟨L, hL⟩ : ∃ L : Nat, L = a * b % 18446744073709551616 := ⟨_, rfl⟩
  rw [← hL] at hlow ⊢
  obtain ⟨a1, ha1⟩ : ∃ a1 : Nat, a1 = a / 4294967296 := ⟨_, rfl⟩
  obtain ⟨a0, ha0⟩ : ∃ a0 : Nat, a0 = a % 4294967296 := ⟨_, rfl⟩
  obtain ⟨b1, hb1⟩ : ∃ b1 : Nat, b1 = b / 4294967296 := ⟨_, rfl⟩
  obtain ⟨b0, hb0⟩ : ∃ b0 : Nat, b0 = b % 4294967296 := ⟨_, rfl⟩
  have r1 : (a : Int) / 4294967296 = (a1 : Int) := by omega
  have r2 : (b : Int) / 4294967296 = (b1 : Int) := by omega
  have r3 : bits .and .u64 (a : Int) 4294967295 = (a0 : Int) := by
    have := bits_and_u64_nat a 4294967295 ha (by decide)
    rw [show (4294967295 : Nat) = 2 ^ 32 - 1 by decide, Nat.and_two_pow_sub_one_eq_mod] at this
    rw [ha0]; exact this
  have r4 : bits .and .u64 (b : Int) 4294967295 = (b0 : Int) := by
    have := bits_and_u64_nat b 4294967295 hb (by decide)
    rw [show (4294967295 : Nat) = 2 ^ 32 - 1 by decide, Nat.and_two_pow_sub_one_eq_mod] at this
    rw [hb0]; exact this
  rw [← ha1, ← ha0, ← hb1, ← hb0] at hm
  have l1 : a1 < 4294967296 := by omega
  have l2 : a0 < 4294967296 := by omega
  have l3 : b1 < 4294967296 := by omega
  have l4 : b0 < 4294967296 := by omega
  have k1 := small_pr a1 b0 l1 l4
  have k2 := small_pr a0 b0 l2 l4
  have k3 := small_pr a0 b1 l2 l3
  have k4 := small_pr a1 b1 l1 l3
  have s1 := pr_fact a1 b0 _ rfl (by omega)
  have s2 := pr_fact a0 b0 _ rfl (by omega)
  have s3 := pr_fact a0 b1 _ rfl (by omega)
  have s4 := pr_fact a1 b1 _ rfl (by omega)
  generalize a1 * b0 = p at *
  generalize a0 * b0 = q at *
  generalize a0 * b1 = r at *
  generalize a1 * b1 = t at *
  obtain ⟨q2, hq2⟩ : ∃ q2 : Nat, q2 = q / 4294967296 := ⟨_, rfl⟩
  have r5 : (q : Int) / 4294967296 = (q2 : Int) := by omega
  obtain ⟨mid, hmid⟩ : ∃ mid : Nat, mid = p + q2 := ⟨_, rfl⟩
  have hmb : mid < 18446744073709551616 := by omega
  have s5 := ad_fact p q2 mid hmid hmb
  rw [← hq2, ← hmid] at hm
  obtain ⟨m1, hm1⟩ : ∃ m1 : Nat, m1 = mid / 4294967296 := ⟨_, rfl⟩
  obtain ⟨m0, hm0⟩ : ∃ m0 : Nat, m0 = mid % 4294967296 := ⟨_, rfl⟩
  have r6 : (mid : Int) / 4294967296 = (m1 : Int) := by omega
  have r7 : bits .and .u64 (mid : Int) 4294967295 = (m0 : Int) := by
    have := bits_and_u64_nat mid 4294967295 hmb (by decide)
    rw [show (4294967295 : Nat) = 2 ^ 32 - 1 by decide, Nat.and_two_pow_sub_one_eq_mod] at this
    rw [hm0]; exact this
  rw [← hm1, ← hm0] at hm
  obtain ⟨oth, hoth⟩ : ∃ oth : Nat, oth = r + m0 := ⟨_, rfl⟩
  have s6 := ad_fact r m0 oth hoth (by omega)
  rw [← hoth] at hm
  obtain ⟨o1, ho1⟩ : ∃ o1 : Nat, o1 = oth / 4294967296 := ⟨_, rfl⟩
  have r8 : (oth : Int) / 4294967296 = (o1 : Int) := by omega
  rw [← ho1] at hm
  obtain ⟨H, hH⟩ : ∃ H : Nat, H = a * b / 18446744073709551616 := ⟨_, rfl⟩
  rw [← hH] at hm hhi ⊢
  obtain ⟨u, hu⟩ : ∃ u : Nat, u = t + m1 := ⟨_, rfl⟩
  have s7 := ad_fact t m1 u hu (by omega)
  have s8 := ad_fact u o1 H (by omega) (by omega)
  clear hm hhi hL hH hu ho1 hoth hm0 hm1 hmid hmb hq2 k1 k2 k3 k4 l1 l2 l3 l4 ha0 ha1 hb0 hb1 ha hb
  go_enter Try.func78, Try.ntmps78
  go_wp2
  exact bodyPost_ret (v := .tuple #[.int .u64 (H : Int), .int .u64 (L : Int)]) (by simp [results, Try.results78, go_sem, hlow, s8]) rfl ⟨rfl, rfl⟩

end Go.Proofs.Ytffceodbadedjaa
