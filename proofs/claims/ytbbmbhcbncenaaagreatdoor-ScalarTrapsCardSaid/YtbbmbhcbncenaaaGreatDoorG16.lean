/-
  FQuo2, FProdMath: merged, what the law does not reach left out (each text says what it holds where it lies in wip). No condition.
-/
import Derived.Test.YtbbmbhcbncenaaaGreatDoorG15
import Derived.Test.YtbbmbhcbncenaaaGreatDoorG10
import Derived.Test.YtbbmbhcbncenaaaGreatDoorG11
import Derived.Test.YtbbmbhcbncenaaaGreatDoorG14
import Derived.Test.YtbbmbhcbncenaaaGreatDoorG01
set_option linter.unusedSimpArgs false
set_option linter.unusedVariables false
set_option maxRecDepth 100000
namespace Go.Proofs.YtbbmbhcbncenaaaGreatDoor.Fl
open Go.RowKit
set_option maxRecDepth 20000 in
set_option maxHeartbeats 25600000 in
theorem quo_32_22 (a b : Nat) (ha : a < 4294967296) (hb : b < 4294967296) (h1 : kindOf 2139095040 (a % 2147483648) = 2) (h2 : kindOf 2139095040 (b % 2147483648) = 2) (w : World) :
  Calls Tryz.prog 164 #[.agg #[.int .i64 8,.int .i64 23],.int .u64 a,.int .u64 b] w fun r w' => r = .returned (.int .u64 ((((Ieee.single).div a b).getD 2143289344 : Nat) : Int)) ∧ Below w.heap.size w w' := by
 have KA := fun w => hid (kind_32 a ha w)
 have KB := fun w => hid (kind_32 b hb w)
 have PA := fun w => hid (parts_32 a ha w)
 have PB := fun w => hid (parts_32 b hb w)
 rw [h1] at KA
 rw [h2] at KB
 have hx := xor_top (k := 31) (a := a) (b := b) (by omega) (by omega)
 rw [show (2 : Nat) ^ 31 = 2147483648 by decide] at hx
 obtain ⟨xr,hxr⟩ : ∃ xr : Nat,xr = a ^^^ b := ⟨_,rfl⟩
 have hxb : bits .xor .u64 (a : Int) (b : Int) = (xr : Int) := by rw [hxr]; exact bits_xor_u64_nat a b (by omega) (by omega)
 rw [← hxr] at hx
 have SG := fun w => hid (sign_32 xr hx.2 w)
 obtain ⟨sg,hsg⟩ : ∃ sg : Nat,sg = if 2147483648 ≤ xr then 2147483648 else 0 := ⟨_,rfl⟩
 rw [← hsg] at SG
 obtain ⟨ns,hns⟩ : ∃ ns : Bool,ns = (decide (2147483648 ≤ a) ^^ decide (2147483648 ≤ b)) := ⟨_,rfl⟩
 have hsgn : ((sg : Int) != 0) = ns := by
  rw [hns,← hx.1,hsg]; by_cases h : 2147483648 ≤ xr <;> simp [h]
 have k1 := kind2.1 h1
 have k2 := kind2.1 h2
 have p1 := (rk2 fmt_single (by omega) h1).2
 have p2 := (rk2 fmt_single (by omega) h2).2
 have hm1b := pm_lt 23 (a % 2147483648)
 have hm2b := pm_lt 23 (b % 2147483648)
 have he1b := pe_eq 23 (-149) (a % 2147483648)
 have he2b := pe_eq 23 (-149) (b % 2147483648)
 have hq1 : a % 2147483648 / 2 ^ 23 ≤ 2046 := by show a % 2147483648 / 8388608 ≤ 2046; omega
 have hq2 : b % 2147483648 / 2 ^ 23 ≤ 2046 := by show b % 2147483648 / 8388608 ≤ 2046; omega
 have HD := hid (fun j1 j2 => div_fin fmt_single (a := a) (b := b) (by omega) (by omega) h1 h2 (j1 := j1) (j2 := j2))
 rw [← hns] at HD
 obtain ⟨RR,hRR⟩ : ∃ RR : Nat,RR = ((Ieee.single).div a b).getD 2143289344 := ⟨_,rfl⟩
 rw [← hRR]
 have HRR := hid hRR
 obtain ⟨n1,hn1⟩ : ∃ n1 : Bool,n1 = decide (2147483648 ≤ a) := ⟨_,rfl⟩
 obtain ⟨n2,hn2⟩ : ∃ n2 : Bool,n2 = decide (2147483648 ≤ b) := ⟨_,rfl⟩
 obtain ⟨m1,hm1⟩ : ∃ m1 : Nat,m1 = pm 23 (a % 2147483648) := ⟨_,rfl⟩
 obtain ⟨m2,hm2⟩ : ∃ m2 : Nat,m2 = pm 23 (b % 2147483648) := ⟨_,rfl⟩
 obtain ⟨e1,he1⟩ : ∃ e1 : Int,e1 = pe 23 (-149) (a % 2147483648) := ⟨_,rfl⟩
 obtain ⟨e2,he2⟩ : ∃ e2 : Int,e2 = pe 23 (-149) (b % 2147483648) := ⟨_,rfl⟩
 rw [← hn1,← hm1,← he1] at PA
 rw [← hn2,← hm2,← he2] at PB
 rw [← hm1,← hm2,← he1,← he2] at HD
 rw [← hm1] at hm1b p1
 rw [← hm2] at hm2b p2
 rw [← he1] at he1b
 rw [← he2] at he2b
 have HM1 : Hid (m1 < 18446744073709551616) := hid (by have : m1 < 8388608 * 2 := hm1b; omega)
 have HM2 : Hid (m2 < 18446744073709551616) := hid (by have : m2 < 8388608 * 2 := hm2b; omega)
 generalize a % 2147483648 / 2 ^ 23 = q1 at *
 generalize b % 2147483648 / 2 ^ 23 = q2 at *
 have HEB := hid (show -1100 ≤ e1 ∧ e1 ≤ 2100 ∧ -1100 ≤ e2 ∧ e2 ≤ 2100 by omega)
 have HE1 : Hid (-4611686018427387904 ≤ e1 ∧ e1 ≤ 4611686018427387904) := hid (by have := HEB.out; omega)
 have HE2 : Hid (-4611686018427387904 ≤ e2 ∧ e2 ≤ 4611686018427387904) := hid (by have := HEB.out; omega)
 have HP0 := hid (And.intro p1 p2)
 have HSGN := hid hsgn
 have HRC : Hid (∀ (q : Nat) (e3 : Int) (mo : Bool),q < 18446744073709551616 → -9223372036854775808 ≤ e3 → e3 ≤ 9223372036854775807 → (mo = true → 288230376151711744 ≤ q) → ∀ W,Calls Tryz.prog 161 #[.agg #[.int .i64 8,.int .i64 23],.agg #[.bool ns,.int .u64 q,.int .i64 e3],.bool mo] W fun r w' => r = .returned (.int .u64 (((Ieee.single).word ns (rungR Ieee.single q e3 mo) : Nat) : Int)) ∧ Below W.heap.size W w') := hid (fun q e3 mo hq h0 h3 hm W => round_32 ns q hq e3 h0 h3 mo hm W)
 exact quo_gen 8 23 Ieee.single a b xr sg ns n1 n2 m1 m2 RR e1 e2 KA KB PA PB SG hxb HSGN HM1 HM2 HEB HE1 HE2 HP0 (hid (fun j1 j2 a1 a2 a3 a4 a5 => by rw [HRR.out,HD.out j1 j2 a1 a2 a3 a4 a5]; rfl)) HRC w
end Go.Proofs.YtbbmbhcbncenaaaGreatDoor.Fl
namespace Go.Proofs.YtbbmbhcbncenaaaGreatDoor.Fl
open Ieee
theorem mul_halves (a b : Nat) : a * b / 18446744073709551616 =
  (a / 4294967296) * (b / 4294967296) + ((a / 4294967296) * (b % 4294967296) + (a % 4294967296) * (b % 4294967296) / 4294967296) / 4294967296 +
   ((a % 4294967296) * (b / 4294967296) + ((a / 4294967296) * (b % 4294967296) + (a % 4294967296) * (b % 4294967296) / 4294967296) % 4294967296) / 4294967296 := by
 have ha := Nat.div_add_mod a 4294967296
 have hb := Nat.div_add_mod b 4294967296
 generalize a / 4294967296 = a1 at *
 generalize a % 4294967296 = a0 at *
 generalize b / 4294967296 = b1 at *
 generalize b % 4294967296 = b0 at *
 have : a * b = 18446744073709551616 * (a1 * b1) + 4294967296 * (a1 * b0) + 4294967296 * (a0 * b1) + a0 * b0 := by
  rw [← ha,← hb,Nat.add_mul,Nat.mul_add,Nat.mul_add]
  have e1 : 4294967296 * a1 * (4294967296 * b1) = 18446744073709551616 * (a1 * b1) := by rw [Nat.mul_mul_mul_comm]
  have e2 : 4294967296 * a1 * b0 = 4294967296 * (a1 * b0) := Nat.mul_assoc ..
  have e3 : a0 * (4294967296 * b1) = 4294967296 * (a0 * b1) := Nat.mul_left_comm ..
  rw [e1,e2,e3]
  omega
 rw [this]
 generalize a1 * b1 = p at *
 generalize a1 * b0 = q at *
 generalize a0 * b1 = r at *
 generalize a0 * b0 = s at *
 omega
theorem prod_math {f : Format} (hP : f.fractionBits ≤ 52) {m1 m2 j1 j2 : Nat} (e1 e2 : Int) (h1 : m1 ≠ 0 → 9223372036854775808 ≤ m1 * 2 ^ j1) (h2 : m2 ≠ 0 → 9223372036854775808 ≤ m2 * 2 ^ j2) :
  rungR f (m1 * 2 ^ j1 * (m2 * 2 ^ j2) / 18446744073709551616) (e1 - j1 + (e2 - j2) + 64) (decide (m1 * 2 ^ j1 * (m2 * 2 ^ j2) % 18446744073709551616 ≠ 0)) = rungOf f (m1 * m2) (e1 + e2) := by
 have key := rungR_jam f (m1 * 2 ^ j1 * (m2 * 2 ^ j2)) 64 (e1 - j1 + (e2 - j2)) (by
  rw [show (2 : Nat) ^ 64 = 18446744073709551616 by decide]
  intro hne
  have hm1 : m1 ≠ 0 := by intro h; rw [h] at hne; simp at hne
  have hm2 : m2 ≠ 0 := by intro h; rw [h] at hne; simp at hne
  have hle : 9223372036854775808 * 9223372036854775808 ≤ m1 * 2 ^ j1 * (m2 * 2 ^ j2) := Nat.mul_le_mul (h1 hm1) (h2 hm2)
  have h53 : (2 : Nat) ^ (f.fractionBits + 1) ≤ 2 ^ 53 := Nat.pow_le_pow_right (by decide) (by omega)
  have c53 : (2 : Nat) ^ 53 = 9007199254740992 := by decide
  generalize m1 * 2 ^ j1 * (m2 * 2 ^ j2) = p at *
  omega)
 rw [show (2 : Nat) ^ 64 = 18446744073709551616 by decide] at key
 rw [show e1 - (j1 : Int) + (e2 - (j2 : Int)) + 64 = e1 - j1 + (e2 - j2) + ((64 : Nat) : Int) by omega,key]
 have hs := rungOf_scale f (m1 * m2) (e1 + e2) (j1 + j2)
 rw [Nat.mul_mul_mul_comm,← Nat.pow_add,show e1 - (j1 : Int) + (e2 - (j2 : Int)) = e1 + e2 - ((j1 + j2 : Nat) : Int) by omega]
 exact hs
open Go.RowKit
theorem pwrap_in (x : Int) (h : -9223372036854775808 ≤ x) (h2 : x ≤ 9223372036854775807) : wrap64 x = x := by unfold wrap64; omega
theorem pr_fact (x y p : Nat) (h : p = x * y) (hp : p < 18446744073709551616) : IntKind.u64.wrap ((x : Int) * (y : Int)) = (p : Int) := by
 have : (x : Int) * (y : Int) = (p : Int) := by rw [h,Int.natCast_mul]
 rw [this,IntKind.wrap_u64]; omega
theorem ad_fact (x y p : Nat) (h : p = x + y) (hp : p < 18446744073709551616) : IntKind.u64.wrap ((x : Int) + (y : Int)) = (p : Int) := by
 rw [IntKind.wrap_u64]; omega
theorem small_pr (x y : Nat) (hx : x < 4294967296) (hy : y < 4294967296) : x * y ≤ 18446744065119617025 := Nat.mul_le_mul (show x ≤ 4294967295 by omega) (show y ≤ 4294967295 by omega)
theorem low_fact (x y : Nat) : IntKind.u64.wrap ((x : Int) * (y : Int)) = ((x * y % 18446744073709551616 : Nat) : Int) := by
 rw [IntKind.wrap_u64,Int.natCast_emod,Int.natCast_mul]; rfl
set_option maxHeartbeats 1600000 in
theorem multiplied_any (a b : Nat) (ha : a < 18446744073709551616) (hb : b < 18446744073709551616) (w : World) :
  Calls Tryz.prog 176 #[.int .u64 (a : Int),.int .u64 (b : Int)] w fun e w' => e = .returned (.tuple #[.int .u64 ((a * b / 18446744073709551616 : Nat) : Int),.int .u64 ((a * b % 18446744073709551616 : Nat) : Int)]) ∧ w = w' := by
 have hm := mul_halves a b
 have hlow := low_fact a b
 have hhi : a * b / 18446744073709551616 < 18446744073709551616 := by
  rw [Nat.div_lt_iff_lt_mul (by decide)]
  exact Nat.mul_lt_mul_of_le_of_lt (Nat.le_of_lt ha) hb (by decide)
 obtain ⟨L,hL⟩ : ∃ L : Nat,L = a * b % 18446744073709551616 := ⟨_,rfl⟩
 rw [← hL] at hlow ⊢
 obtain ⟨a1,ha1⟩ : ∃ a1 : Nat,a1 = a / 4294967296 := ⟨_,rfl⟩
 obtain ⟨a0,ha0⟩ : ∃ a0 : Nat,a0 = a % 4294967296 := ⟨_,rfl⟩
 obtain ⟨b1,hb1⟩ : ∃ b1 : Nat,b1 = b / 4294967296 := ⟨_,rfl⟩
 obtain ⟨b0,hb0⟩ : ∃ b0 : Nat,b0 = b % 4294967296 := ⟨_,rfl⟩
 have r1 : (a : Int) / 4294967296 = (a1 : Int) := by omega
 have r2 : (b : Int) / 4294967296 = (b1 : Int) := by omega
 have r3 : bits .and .u64 (a : Int) 4294967295 = (a0 : Int) := by
  have := bits_and_u64_nat a 4294967295 ha (by decide)
  rw [show (4294967295 : Nat) = 2 ^ 32 - 1 by decide,Nat.and_two_pow_sub_one_eq_mod] at this
  rw [ha0]; exact this
 have r4 : bits .and .u64 (b : Int) 4294967295 = (b0 : Int) := by
  have := bits_and_u64_nat b 4294967295 hb (by decide)
  rw [show (4294967295 : Nat) = 2 ^ 32 - 1 by decide,Nat.and_two_pow_sub_one_eq_mod] at this
  rw [hb0]; exact this
 rw [← ha1,← ha0,← hb1,← hb0] at hm
 have l1 : a1 < 4294967296 := by omega
 have l2 : a0 < 4294967296 := by omega
 have l3 : b1 < 4294967296 := by omega
 have l4 : b0 < 4294967296 := by omega
 have k1 := small_pr a1 b0 l1 l4
 have k2 := small_pr a0 b0 l2 l4
 have k3 := small_pr a0 b1 l2 l3
 have k4 := small_pr a1 b1 l1 l3
 have s1 := pr_fact a1 b0 _ rfl (by omega)
 have s2 := pr_fact a0 b0 _ rfl (by omega)
 have s3 := pr_fact a0 b1 _ rfl (by omega)
 have s4 := pr_fact a1 b1 _ rfl (by omega)
 generalize a1 * b0 = p at *
 generalize a0 * b0 = q at *
 generalize a0 * b1 = r at *
 generalize a1 * b1 = t at *
 obtain ⟨q2,hq2⟩ : ∃ q2 : Nat,q2 = q / 4294967296 := ⟨_,rfl⟩
 have r5 : (q : Int) / 4294967296 = (q2 : Int) := by omega
 obtain ⟨mid,hmid⟩ : ∃ mid : Nat,mid = p + q2 := ⟨_,rfl⟩
 have hmb : mid < 18446744073709551616 := by omega
 have s5 := ad_fact p q2 mid hmid hmb
 rw [← hq2,← hmid] at hm
 obtain ⟨m1,hm1⟩ : ∃ m1 : Nat,m1 = mid / 4294967296 := ⟨_,rfl⟩
 obtain ⟨m0,hm0⟩ : ∃ m0 : Nat,m0 = mid % 4294967296 := ⟨_,rfl⟩
 have r6 : (mid : Int) / 4294967296 = (m1 : Int) := by omega
 have r7 : bits .and .u64 (mid : Int) 4294967295 = (m0 : Int) := by
  have := bits_and_u64_nat mid 4294967295 hmb (by decide)
  rw [show (4294967295 : Nat) = 2 ^ 32 - 1 by decide,Nat.and_two_pow_sub_one_eq_mod] at this
  rw [hm0]; exact this
 rw [← hm1,← hm0] at hm
 obtain ⟨oth,hoth⟩ : ∃ oth : Nat,oth = r + m0 := ⟨_,rfl⟩
 have s6 := ad_fact r m0 oth hoth (by omega)
 rw [← hoth] at hm
 obtain ⟨o1,ho1⟩ : ∃ o1 : Nat,o1 = oth / 4294967296 := ⟨_,rfl⟩
 have r8 : (oth : Int) / 4294967296 = (o1 : Int) := by omega
 rw [← ho1] at hm
 obtain ⟨H,hH⟩ : ∃ H : Nat,H = a * b / 18446744073709551616 := ⟨_,rfl⟩
 rw [← hH] at hm hhi ⊢
 obtain ⟨u,hu⟩ : ∃ u : Nat,u = t + m1 := ⟨_,rfl⟩
 have s7 := ad_fact t m1 u hu (by omega)
 have s8 := ad_fact u o1 H (by omega) (by omega)
 clear hm hhi hL hH hu ho1 hoth hm0 hm1 hmid hmb hq2 k1 k2 k3 k4 l1 l2 l3 l4 ha0 ha1 hb0 hb1 ha hb
 go_enter Tryz.func176,Tryz.ntmps176
 go_wp2
 exact bodyPost_ret (v := .tuple #[.int .u64 (H : Int),.int .u64 (L : Int)]) (by simp [results,Tryz.results176,go_sem,hlow,s8]) rfl ⟨rfl,rfl⟩
end Go.Proofs.YtbbmbhcbncenaaaGreatDoor.Fl
