/-
  The contract of the program's quotient of two finite numbers, of 32 bits. Condition: the words are no NaNs.
-/
import Derived.Test.YtffceodbadedjaaQuoG
set_option linter.unusedSimpArgs false
set_option linter.unusedVariables false
namespace Go.Proofs.Ytffceodbadedjaa
open Go.RowKit

set_option maxRecDepth 20000 in
set_option maxHeartbeats 25600000 in
theorem quo_32_22 (a b : Nat) (ha : a < 4294967296) (hb : b < 4294967296) (h1 : kindOf 2139095040 (a % 2147483648) = 2) (h2 : kindOf 2139095040 (b % 2147483648) = 2) (w : World) :
    Calls Try.prog 64 #[.agg #[.int .i64 8, .int .i64 23], .int .u64 a, .int .u64 b] w fun r w' => r = .returned (.int .u64 ((((Ieee.single).div a b).getD 2143289344 : Nat) : Int)) ∧ Below w.heap.size w w' := by
  have KA := fun w => hid (kind_32 a ha w)
  have KB := fun w => hid (kind_32 b hb w)
  have PA := fun w => hid (parts_32 a ha w)
  have PB := fun w => hid (parts_32 b hb w)
  rw [h1] at KA
  rw [h2] at KB
  have hx := xor_top (k := 31) (a := a) (b := b) (by omega) (by omega)
  rw [show (2 : Nat) ^ 31 = 2147483648 by decide] at hx
  obtain ⟨xr, hxr⟩ : ∃ xr : Nat, xr = a ^^^ b := ⟨_, rfl⟩
  have hxb : bits .xor .u64 (a : Int) (b : Int) = (xr : Int) := by rw [hxr]; exact bits_xor_u64_nat a b (by omega) (by omega)
  rw [← hxr] at hx
  have SG := fun w => hid (sign_32 xr hx.2 w)
  obtain ⟨sg, hsg⟩ : ∃ sg : Nat, sg = if 2147483648 ≤ xr then 2147483648 else 0 := ⟨_, rfl⟩
  rw [← hsg] at SG
  obtain ⟨ns, hns⟩ : ∃ ns : Bool, ns = (decide (2147483648 ≤ a) ^^ decide (2147483648 ≤ b)) := ⟨_, rfl⟩
  have hsgn : ((sg : Int) != 0) = ns := by
    rw [hns, ← hx.1, hsg]; by_cases h : 2147483648 ≤ xr <;> simp [h]
  have k1 := kind2.1 h1
  have k2 := kind2.1 h2
  have p1 := (rk2 fmt_single (by omega) h1).2
  have p2 := (rk2 fmt_single (by omega) h2).2
  have hm1b := pm_lt 23 (a % 2147483648)
  have hm2b := pm_lt 23 (b % 2147483648)
  have he1b := pe_eq 23 (-149) (a % 2147483648)
  have he2b := pe_eq 23 (-149) (b % 2147483648)
  have hq1 : a % 2147483648 / 2 ^ 23 ≤ 2046 := by show a % 2147483648 / 8388608 ≤ 2046; omega
  have hq2 : b % 2147483648 / 2 ^ 23 ≤ 2046 := by show b % 2147483648 / 8388608 ≤ 2046; omega
  have HD := hid (fun j1 j2 => div_fin fmt_single (a := a) (b := b) (by omega) (by omega) h1 h2 (j1 := j1) (j2 := j2))
  rw [← hns] at HD
  obtain ⟨RR, hRR⟩ : ∃ RR : Nat, RR = ((Ieee.single).div a b).getD 2143289344 := ⟨_, rfl⟩
  rw [← hRR]
  have HRR := hid hRR
  obtain ⟨n1, hn1⟩ : ∃ n1 : Bool, n1 = decide (2147483648 ≤ a) := ⟨_, rfl⟩
  obtain ⟨n2, hn2⟩ : ∃ n2 : Bool, n2 = decide (2147483648 ≤ b) := ⟨_, rfl⟩
  obtain ⟨m1, hm1⟩ : ∃ m1 : Nat, m1 = pm 23 (a % 2147483648) := ⟨_, rfl⟩
  obtain ⟨m2, hm2⟩ : ∃ m2 : Nat, m2 = pm 23 (b % 2147483648) := ⟨_, rfl⟩
  obtain ⟨e1, he1⟩ : ∃ e1 : Int, e1 = pe 23 (-149) (a % 2147483648) := ⟨_, rfl⟩
  obtain ⟨e2, he2⟩ : ∃ e2 : Int, e2 = pe 23 (-149) (b % 2147483648) := ⟨_, rfl⟩
  rw [← hn1, ← hm1, ← he1] at PA
  rw [← hn2, ← hm2, ← he2] at PB
  rw [← hm1, ← hm2, ← he1, ← he2] at HD
  rw [← hm1] at hm1b p1
  rw [← hm2] at hm2b p2
  rw [← he1] at he1b
  rw [← he2] at he2b
  have HM1 : Hid (m1 < 18446744073709551616) := hid (by have : m1 < 8388608 * 2 := hm1b; omega)
  have HM2 : Hid (m2 < 18446744073709551616) := hid (by have : m2 < 8388608 * 2 := hm2b; omega)
  generalize a % 2147483648 / 2 ^ 23 = q1 at *
  generalize b % 2147483648 / 2 ^ 23 = q2 at *
  have HEB := hid (show -1100 ≤ e1 ∧ e1 ≤ 2100 ∧ -1100 ≤ e2 ∧ e2 ≤ 2100 by omega)
  have HE1 : Hid (-4611686018427387904 ≤ e1 ∧ e1 ≤ 4611686018427387904) := hid (by have := HEB.out; omega)
  have HE2 : Hid (-4611686018427387904 ≤ e2 ∧ e2 ≤ 4611686018427387904) := hid (by have := HEB.out; omega)
  have HP0 := hid (And.intro p1 p2)
  have HSGN := hid hsgn
  have HRC : Hid (∀ (q : Nat) (e3 : Int) (mo : Bool), q < 18446744073709551616 → -9223372036854775808 ≤ e3 → e3 ≤ 9223372036854775807 → (mo = true → 288230376151711744 ≤ q) → ∀ W, Calls Try.prog 57 #[.agg #[.int .i64 8, .int .i64 23], .agg #[.bool ns, .int .u64 q, .int .i64 e3], .bool mo] W fun r w' => r = .returned (.int .u64 (((Ieee.single).word ns (rungR Ieee.single q e3 mo) : Nat) : Int)) ∧ Below W.heap.size W w') := hid (fun q e3 mo hq h0 h3 hm W => round_32 ns q hq e3 h0 h3 mo hm W)
  exact quo_gen 8 23 Ieee.single a b xr sg ns n1 n2 m1 m2 RR e1 e2 KA KB PA PB SG hxb HSGN HM1 HM2 HEB HE1 HE2 HP0 (hid (fun j1 j2 a1 a2 a3 a4 a5 => by rw [HRR.out, HD.out j1 j2 a1 a2 a3 a4 a5]; rfl)) HRC w

end Go.Proofs.Ytffceodbadedjaa
