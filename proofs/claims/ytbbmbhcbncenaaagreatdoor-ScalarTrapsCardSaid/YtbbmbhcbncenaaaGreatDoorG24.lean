/-
  FRootM, FRootLoop, FRoot, FRoot64, FFUn3: merged, what the law does not reach left out (each text says what it holds where it lies in wip). No condition.
-/
import Derived.Test.YtbbmbhcbncenaaaGreatDoorG14
import Derived.Test.YtbbmbhcbncenaaaGreatDoorG09
import Derived.Test.YtbbmbhcbncenaaaGreatDoorG16
import Derived.Test.YtbbmbhcbncenaaaGreatDoorG22
import Derived.Test.YtbbmbhcbncenaaaGreatDoorG10
import Derived.Test.YtbbmbhcbncenaaaGreatDoorG23
import Derived.Test.YtbbmbhcbncenaaaGreatDoorG01
set_option linter.unusedSimpArgs false
set_option linter.unusedVariables false
set_option maxRecDepth 100000
namespace Go.Proofs.YtbbmbhcbncenaaaGreatDoor.Fl
open Ieee
def SqrtOf (n r : Nat) : Prop := r * r ≤ n ∧ n < (r + 1) * (r + 1)
theorem sqrt_unique {n r s : Nat} (h1 : SqrtOf n r) (h2 : SqrtOf n s) : r = s := by
 rcases Nat.lt_trichotomy r s with h | h | h
 ·have : (r + 1) * (r + 1) ≤ s * s := Nat.mul_le_mul h h
  have := h1.2; have := h2.1; omega
 ·exact h
 ·have : (s + 1) * (s + 1) ≤ r * r := Nat.mul_le_mul h h
  have := h2.2; have := h1.1; omega
theorem rootFrom_spec (n : Nat) : ∀ (todo root : Nat),root * root ≤ n → n < (root + 2 ^ todo) * (root + 2 ^ todo) → SqrtOf n (Datum.rootFrom n todo root)
 | 0,root,h1,h2 => by
  have h3 : n < (root + 1) * (root + 1) := by simpa using h2
  exact ⟨h1,h3⟩
 | todo + 1,root,h1,h2 => by
  unfold Datum.rootFrom
  simp only [Nat.one_shiftLeft]
  by_cases hc : (root + 2 ^ todo) * (root + 2 ^ todo) ≤ n
  ·rw [if_pos hc]
   refine rootFrom_spec n todo _ hc ?_
   rw [show root + 2 ^ todo + 2 ^ todo = root + 2 ^ (todo + 1) by rw [Nat.pow_succ]; omega]
   exact h2
  ·rw [if_neg hc]
   exact rootFrom_spec n todo root h1 (by omega)
theorem root_spec (n : Nat) : SqrtOf n (Datum.rootFrom n (n.log2 / 2 + 1) 0) := by
 refine rootFrom_spec n _ 0 (by simp) ?_
 have h1 := @Nat.lt_log2_self n
 rw [Nat.zero_add,← Nat.pow_add]
 exact Nat.lt_of_lt_of_le h1 (Nat.pow_le_pow_right (by decide) (by omega))
def rungS (f : Format) (n r : Nat) (e : Int) : Nat := rungR f r e (decide (r * r ≠ n))
theorem rungS_scale (f : Format) {n r R k : Nat} (h : SqrtOf n r) (hR : SqrtOf (n * (2 ^ k * 2 ^ k)) R) (e : Int) (hlo : 2 ^ (f.fractionBits + 1) ≤ r) :
  rungS f (n * (2 ^ k * 2 ^ k)) R (e - k) = rungS f n r e := by
 have hk : 0 < 2 ^ k := Nat.two_pow_pos k
 have hk1 : (2 : Nat) ^ (k + 1) = 2 * 2 ^ k := by rw [Nat.pow_succ]; omega
 have sq : ∀ x : Nat,(x * 2 ^ k) * (x * 2 ^ k) = x * x * (2 ^ k * 2 ^ k) := fun x => by
  rw [Nat.mul_mul_mul_comm]
 have hle : r * 2 ^ k ≤ R := by
  rcases Nat.lt_or_ge R (r * 2 ^ k) with hc | hc
  ·exfalso
   have h1 : (R + 1) * (R + 1) ≤ (r * 2 ^ k) * (r * 2 ^ k) := Nat.mul_le_mul hc hc
   rw [sq] at h1
   have h2 : r * r * (2 ^ k * 2 ^ k) ≤ n * (2 ^ k * 2 ^ k) := Nat.mul_le_mul_right _ h.1
   have := hR.2
   omega
  ·exact hc
 have hlt : R < (r + 1) * 2 ^ k := by
  rcases Nat.lt_or_ge R ((r + 1) * 2 ^ k) with hc | hc
  ·exact hc
  ·exfalso
   have h1 : ((r + 1) * 2 ^ k) * ((r + 1) * 2 ^ k) ≤ R * R := Nat.mul_le_mul hc hc
   rw [sq] at h1
   have h2 : n * (2 ^ k * 2 ^ k) < (r + 1) * (r + 1) * (2 ^ k * 2 ^ k) := Nat.mul_lt_mul_of_pos_right h.2 (Nat.mul_pos hk hk)
   have := hR.1
   omega
 have hq : R / 2 ^ k = r := by
  rw [Nat.div_eq_iff hk]
  rw [Nat.add_mul,Nat.one_mul] at hlt
  omega
 have hex : (R % 2 ^ k = 0 ∧ R * R = n * (2 ^ k * 2 ^ k)) ↔ r * r = n := by
  constructor
  ·rintro ⟨h1,h2⟩
   have h3 : R = r * 2 ^ k := by
    have := Nat.div_add_mod R (2 ^ k)
    rw [hq,h1,Nat.add_zero,Nat.mul_comm] at this
    exact this.symm
   rw [h3,sq] at h2
   exact Nat.eq_of_mul_eq_mul_right (Nat.mul_pos hk hk) h2
  ·intro h1
   have h2 : SqrtOf (n * (2 ^ k * 2 ^ k)) (r * 2 ^ k) := by
    refine ⟨by rw [sq,h1]; exact Nat.le_refl _,?_⟩
    rw [← h1,← sq]
    exact Nat.mul_lt_mul_of_lt_of_le (Nat.lt_succ_self _) (Nat.le_succ _) (by omega)
   have h3 := sqrt_unique hR h2
   rw [h3]
   exact ⟨Nat.mul_mod_left _ _,by rw [sq,h1]⟩
 have hb := Bool.toNat_le (decide (R * R ≠ n * (2 ^ k * 2 ^ k)))
 obtain ⟨s,hs⟩ : ∃ s : Nat,s = (decide (R * R ≠ n * (2 ^ k * 2 ^ k))).toNat := ⟨_,rfl⟩
 rw [← hs] at hb
 have hMd : (2 * R + s) / 2 ^ (k + 1) = r := by
  rw [hk1,← Nat.div_div_eq_div_mul,show (2 * R + s) / 2 = R by omega,hq]
 have hMm : (2 * R + s) % 2 ^ (k + 1) = 0 ↔ r * r = n := by
  rw [← hex]
  have hs0 : s = 0 ↔ R * R = n * (2 ^ k * 2 ^ k) := by
   rw [hs]
   by_cases hc : R * R = n * (2 ^ k * 2 ^ k) <;> simp [hc]
  rw [← hs0]
  constructor
  ·intro h0
   have hdvd : 2 ^ (k + 1) ∣ 2 * R + s := Nat.dvd_of_mod_eq_zero h0
   have h2 : (2 * R + s) % 2 = 0 := Nat.mod_eq_zero_of_dvd (Nat.dvd_trans ⟨2 ^ k,hk1⟩ hdvd)
   have hs1 : s = 0 := by omega
   refine ⟨?_,hs1⟩
   rw [hs1,Nat.add_zero,hk1] at hdvd
   exact Nat.mod_eq_zero_of_dvd (Nat.dvd_of_mul_dvd_mul_left (by decide) hdvd)
  ·rintro ⟨h1,h2⟩
   rw [h2,Nat.add_zero,hk1,Nat.mul_mod_mul_left,h1]
 have := rungOf_jam f (2 * R + s) (k + 1) (e - k - 1) (by rw [hMd]; exact hlo)
 unfold rungS rungR
 rw [← hs,← this]
 unfold jam
 rw [hMd]
 congr 1
 ·congr 1
  by_cases h0 : r * r = n
  ·rw [if_pos (hMm.2 h0)]; simp [h0]
  ·rw [if_neg (fun h => h0 (hMm.1 h))]; simp [h0]
 ·omega
theorem sqrt_lo {n r k : Nat} (h : SqrtOf n r) (hn : 2 ^ (2 * k) ≤ n) : 2 ^ k ≤ r := by
 rcases Nat.lt_or_ge r (2 ^ k) with hc | hc
 ·exfalso
  have h1 : (r + 1) * (r + 1) ≤ 2 ^ k * 2 ^ k := Nat.mul_le_mul hc hc
  rw [← Nat.pow_add,show k + k = 2 * k by omega] at h1
  have := h.2
  omega
 ·exact hc
theorem root_math {f : Format} (m : Nat) (e : Int) (hm : m ≠ 0) {K r : Nat} (hK : (e - K) % 2 = 0) (hr : SqrtOf (m * 2 ^ K) r) (hlo : 2 ^ (2 * (f.fractionBits + 1)) ≤ m * 2 ^ K) :
  ((Datum.number false m e).root (f.fractionBits + 2)).map f.write = some (f.word false (rungS f (m * 2 ^ K) r ((e - K) / 2))) := by
 simp only [Datum.root,if_neg hm]
 obtain ⟨mo,hmo⟩ : ∃ mo : Nat,mo = 2 * (f.fractionBits + 2) - m.log2 := ⟨_,rfl⟩
 rw [← hmo]
 obtain ⟨J,hJ⟩ : ∃ J : Nat,J = mo + ((e - (mo : Int)) % 2).toNat := ⟨_,rfl⟩
 rw [← hJ,Nat.shiftLeft_eq]
 have hJe : (e - (J : Int)) % 2 = 0 := by omega
 have hl := Nat.log2_self_le hm
 have hJlo : 2 ^ (2 * (f.fractionBits + 2)) ≤ m * 2 ^ J := by
  calc 2 ^ (2 * (f.fractionBits + 2)) ≤ 2 ^ (m.log2 + J) := Nat.pow_le_pow_right (by decide) (by omega)
   _ = 2 ^ m.log2 * 2 ^ J := Nat.pow_add ..
   _ ≤ m * 2 ^ J := Nat.mul_le_mul_right _ hl
 have hs := root_spec (m * 2 ^ J)
 obtain ⟨s,hse⟩ : ∃ s : Nat,s = Datum.rootFrom (m * 2 ^ J) ((m * 2 ^ J).log2 / 2 + 1) 0 := ⟨_,rfl⟩
 rw [← hse] at hs ⊢
 have hlo1 := sqrt_lo hs hJlo
 have hlo2 := sqrt_lo hr hlo
 have hlo3 : 2 ^ (f.fractionBits + 1) ≤ s := Nat.le_trans (Nat.pow_le_pow_right (by decide) (by omega)) hlo1
 simp only [Bool.false_eq_true,if_false,Option.map_some,Option.some.injEq,Format.write]
 rw [nearest_eq]
 congr 1
 have key : rungS f (m * 2 ^ J) s ((e - J) / 2) = rungS f (m * 2 ^ K) r ((e - K) / 2) := by
  rcases Nat.le_total J K with hjk | hjk
  ·obtain ⟨c,hc⟩ : ∃ c : Nat,K = J + 2 * c := ⟨(K - J) / 2,by omega⟩
   have e1 : m * 2 ^ K = m * 2 ^ J * (2 ^ c * 2 ^ c) := by rw [hc,Nat.pow_add,Nat.mul_assoc,← Nat.pow_add 2 c c,show c + c = 2 * c by omega]
   rw [e1] at hr ⊢
   have := rungS_scale f hs hr ((e - J) / 2) hlo3
   rw [show (e - (J : Int)) / 2 - (c : Int) = (e - K) / 2 by omega] at this
   exact this.symm
  ·obtain ⟨c,hc⟩ : ∃ c : Nat,J = K + 2 * c := ⟨(J - K) / 2,by omega⟩
   have e1 : m * 2 ^ J = m * 2 ^ K * (2 ^ c * 2 ^ c) := by rw [hc,Nat.pow_add,Nat.mul_assoc,← Nat.pow_add 2 c c,show c + c = 2 * c by omega]
   rw [e1] at hs ⊢
   have := rungS_scale f hr hs ((e - K) / 2) hlo2
   rw [show (e - (K : Int)) / 2 - (c : Int) = (e - J) / 2 by omega] at this
   exact this
 rw [← key]
 unfold rungS rungR
 congr 2
 by_cases h0 : s * s = m * 2 ^ J
 ·simp [h0]
 ·simp [h0]
end Go.Proofs.YtbbmbhcbncenaaaGreatDoor.Fl
namespace Go.Proofs.YtbbmbhcbncenaaaGreatDoor.Fl
open Go.RowKit
def RI (N k m r l : Nat) : Prop := m * m + r = N * 4 ^ k / 18446744073709551616 ∧ r ≤ 2 * m ∧ l = N * 4 ^ k % 18446744073709551616
theorem sq1 (m r t : Nat) (h : r ≤ 2 * m) (ht : t < 4) (hge : 4 * m + 1 ≤ 4 * r + t) : (2 * m + 1) * (2 * m + 1) + (4 * r + t - (4 * m + 1)) = 4 * (m * m + r) + t ∧ 4 * r + t - (4 * m + 1) ≤ 2 * (2 * m + 1) := by
 have e : (2 * m + 1) * (2 * m + 1) = 4 * (m * m) + 4 * m + 1 := by
  rw [Nat.add_mul,Nat.mul_add,Nat.mul_mul_mul_comm]; omega
 rw [e]; omega
theorem sq2 (m r t : Nat) (h : r ≤ 2 * m) (ht : t < 4) (hlt : 4 * r + t < 4 * m + 1) : 2 * m * (2 * m) + (4 * r + t) = 4 * (m * m + r) + t ∧ 4 * r + t ≤ 2 * (2 * m) := by
 have e : 2 * m * (2 * m) = 4 * (m * m) := by rw [Nat.mul_mul_mul_comm]
 rw [e]; omega
theorem ri_start (N : Nat) (h : N < 18446744073709551616) : RI N 0 0 0 N := by
 refine ⟨?_,by omega,?_⟩
 ·rw [Nat.pow_zero,Nat.mul_one,Nat.div_eq_of_lt h]
 ·rw [Nat.pow_zero,Nat.mul_one,Nat.mod_eq_of_lt h]
theorem ri_step {N k m r l : Nat} (h : RI N k m r l) :
  (4 * m + 1 ≤ 4 * r + l / 4611686018427387904 → RI N (k + 1) (2 * m + 1) (4 * r + l / 4611686018427387904 - (4 * m + 1)) (4 * l % 18446744073709551616)) ∧
  (4 * r + l / 4611686018427387904 < 4 * m + 1 → RI N (k + 1) (2 * m) (4 * r + l / 4611686018427387904) (4 * l % 18446744073709551616)) := by
 obtain ⟨h1,h2,h3⟩ := h
 have e : N * 4 ^ (k + 1) = 4 * (N * 4 ^ k) := by rw [Nat.pow_succ,← Nat.mul_assoc,Nat.mul_comm]
 unfold RI
 rw [e]
 generalize N * 4 ^ k = A at *
 have ht : l / 4611686018427387904 < 4 := by omega
 have hA : 4 * A / 18446744073709551616 = 4 * (A / 18446744073709551616) + l / 4611686018427387904 := by omega
 have hl : 4 * l % 18446744073709551616 = 4 * A % 18446744073709551616 := by omega
 rw [hA,← h1,hl]
 generalize l / 4611686018427387904 = t at *
 refine ⟨fun hg => ?_,fun hg => ?_⟩
 ·have := sq1 m r t h2 ht hg
  exact ⟨this.1,this.2,rfl⟩
 ·have := sq2 m r t h2 ht hg
  exact ⟨this.1,this.2,rfl⟩
theorem ri_bound {N k m r l : Nat} (h : RI N k m r l) (hN : N < 18446744073709551616) (hk : k ≤ 60) : m < 1152921504606846976 ∧ l < 18446744073709551616 := by
 obtain ⟨h1,h2,h3⟩ := h
 refine ⟨?_,by rw [h3]; exact Nat.mod_lt _ (by decide)⟩
 rcases Nat.lt_or_ge m 1152921504606846976 with h4 | h4
 ·exact h4
 ·exfalso
  have h5 : 1152921504606846976 * 1152921504606846976 ≤ m * m := Nat.mul_le_mul h4 h4
  have h6 : (4 : Nat) ^ k ≤ 4 ^ 60 := Nat.pow_le_pow_right (by decide) hk
  have h7 : N * 4 ^ k ≤ 18446744073709551615 * 4 ^ 60 := Nat.mul_le_mul (by omega) h6
  have h8 : N * 4 ^ k / 18446744073709551616 ≤ 18446744073709551615 * 4 ^ 60 / 18446744073709551616 := Nat.div_le_div_right h7
  have c : 18446744073709551615 * 4 ^ 60 / 18446744073709551616 < 1152921504606846976 * 1152921504606846976 := by decide +kernel
  omega
theorem ri_end {N m r l : Nat} (h : RI N 60 m r l) : m * m + r = N * 2 ^ 56 ∧ SqrtOf (N * 2 ^ 56) m := by
 obtain ⟨h1,h2,-⟩ := h
 have e : N * 4 ^ 60 / 18446744073709551616 = N * 2 ^ 56 := by
  rw [show (4 : Nat) ^ 60 = 2 ^ 56 * 18446744073709551616 by decide +kernel,← Nat.mul_assoc,Nat.mul_div_cancel _ (by decide)]
 rw [e] at h1
 refine ⟨h1,?_,?_⟩
 ·omega
 ·have : (m + 1) * (m + 1) = m * m + 2 * m + 1 := by rw [Nat.add_mul,Nat.mul_add]; omega
  omega
theorem and_one (d : Int) : bits .and .i64 d 1 = d % 2 := by
 have e2 : BitVec.toNat (BitVec.ofInt 64 (1 : Int)) = 1 := by decide
 show IntKind.i64.wrap ((BitVec.ofInt 64 d &&& BitVec.ofInt 64 (1 : Int)).toNat : Int) = _
 rw [BitVec.toNat_and,e2,IntKind.wrap_i64,Nat.and_one_is_mod,BitVec.toNat_ofInt]
 omega
theorem or_two (q t : Nat) (h : t < 4) : 4 * q ||| t = 4 * q + t := by
 have := Nat.two_pow_add_eq_or_of_lt (i := 2) (b := t) h q
 rw [show 2 ^ 2 * q = 4 * q by rfl] at this
 exact this.symm
theorem root_loop_math (N k m r l : Nat) (h : RI N k m r l) (hN : N < 18446744073709551616) (hk : k < 60) :
  ∃ r4 t l4 q4 m2 : Nat,IntKind.u64.wrap ((r : Int) * 4) = (r4 : Int) ∧ (l : Int) / 4611686018427387904 = (t : Int) ∧ bits .or .u64 (r4 : Int) (t : Int) = ((4 * r + l / 4611686018427387904 : Nat) : Int) ∧
   IntKind.u64.wrap ((l : Int) * 4) = (l4 : Int) ∧ l4 = 4 * l % 18446744073709551616 ∧ IntKind.u64.wrap ((m : Int) * 4) = (q4 : Int) ∧ bits .or .u64 (q4 : Int) 1 = ((4 * m + 1 : Nat) : Int) ∧
   IntKind.u64.wrap ((m : Int) * 2) = (m2 : Int) ∧ m2 = 2 * m ∧ bits .or .u64 (m2 : Int) 1 = ((2 * m + 1 : Nat) : Int) ∧ 4 * r + l / 4611686018427387904 < 18446744073709551616 := by
 obtain ⟨hm,hl⟩ := ri_bound h hN (by omega)
 have hr := h.2.1
 clear h
 refine ⟨4 * r,l / 4611686018427387904,4 * l % 18446744073709551616,4 * m,2 * m,?_,by omega,?_,?_,rfl,?_,?_,?_,rfl,?_,by omega⟩
 ·rw [IntKind.wrap_u64]; omega
 ·have := bits_or_u64_nat (4 * r) (l / 4611686018427387904) (by omega) (by omega)
  rw [or_two _ _ (by omega)] at this; exact this
 ·rw [IntKind.wrap_u64]; omega
 ·rw [IntKind.wrap_u64]; omega
 ·have := bits_or_u64_nat (4 * m) 1 (by omega) (by decide)
  rw [or_two _ _ (by decide)] at this; exact this
 ·rw [IntKind.wrap_u64]; omega
 ·have := bits_or_u64_nat (2 * m) 1 (by omega) (by decide)
  rw [or_one] at this; exact this
section
open Ieee
variable {f : Format} {SB INF P : Nat} {low : Int} (F : Fmt f SB INF P low) {a : Nat}
include F
theorem sqrt_nan (h : INF < a % SB) : f.sqrt a = none := by
 unfold Format.sqrt
 obtain ⟨s,t,e⟩ := read_nan (f := f) F.sb F.bi (by rw [F.inf]; exact h)
 rw [e]; rfl
theorem sqrt_zero (ha : a < 2 * SB) (h : kindOf INF (a % SB) = 1) : f.sqrt a = some a := by
 unfold Format.sqrt
 rw [rk1 F ha h]
 show some (f.write (.number (decide (SB ≤ a)) 0 _)) = some a
 congr 1
 show f.nearest _ _ _ = a
 rw [nearest_eq]
 have hz : rungOf f 0 (pe P low (a % SB)) = 0 := by unfold rungOf; rw [if_pos rfl]
 rw [hz]
 have := word_sz F ha
 rw [kind1.1 h] at this
 exact this
theorem sqrt_neg (ha : a < 2 * SB) (h : kindOf INF (a % SB) = 2 ∨ kindOf INF (a % SB) = 3) (hs : SB ≤ a) : f.sqrt a = none := by
 unfold Format.sqrt
 rcases h with h | h
 ·have h2 := rk2 F ha h
  rw [h2.1,decide_eq_true hs]
  simp only [Datum.root,if_neg h2.2]; rfl
 ·rw [rk3 F ha h,decide_eq_true hs]; rfl
theorem sqrt_inf (ha : a < 2 * SB) (h : kindOf INF (a % SB) = 3) (hs : ¬ SB ≤ a) : f.sqrt a = some a := by
 unfold Format.sqrt
 have := word_sz F ha
 rw [(kind3 F.inf0).1 h,decide_eq_false hs,← F.inf] at this
 rw [rk3 F ha h,decide_eq_false hs]
 show some (f.word false f.infRung) = some a
 rw [this]
end
end Go.Proofs.YtbbmbhcbncenaaaGreatDoor.Fl
namespace Go.Proofs.YtbbmbhcbncenaaaGreatDoor.Fl
open Go.RowKit
set_option maxRecDepth 20000 in
set_option maxHeartbeats 12800000 in
theorem root_32_fin (a : Nat) (ha : a < 2147483648) (h1 : kindOf 2139095040 (a % 2147483648) = 2) (w : World) :
  Calls Tryz.prog 132 #[.agg #[.int .i64 8,.int .i64 23],.int .u64 a] w fun r w' => r = .returned (.int .u64 ((((Ieee.single).sqrt a).getD 2143289344 : Nat) : Int)) ∧ Below w.heap.size w w' := by
 have ha2 : a < 4294967296 := by omega
 have KA := fun w => hid (kind_32 a ha2 w)
 have PA := fun w => hid (parts_32 a ha2 w)
 have SG := fun w => hid (sign_32 a ha2 w)
 rw [h1] at KA
 have hsg : (if 2147483648 ≤ a then 2147483648 else 0) = 0 := by rw [if_neg (by omega)]
 rw [hsg] at SG
 have hng : decide (2147483648 ≤ a) = false := decide_eq_false (by omega)
 rw [hng] at PA
 have p1 := (rk2 fmt_single (by omega) h1).2
 have hr2 := (rk2 fmt_single (by omega) h1).1
 rw [hng] at hr2
 have hm1b := pm_lt 23 (a % 2147483648)
 have he1b := pe_eq 23 (-149) (a % 2147483648)
 have hq1 : a % 2147483648 / 2 ^ 23 ≤ 2046 := by show a % 2147483648 / 8388608 ≤ 2046; have := (kind2.1 h1).2; omega
 obtain ⟨RR,hRR⟩ : ∃ RR : Nat,RR = ((Ieee.single).sqrt a).getD 2143289344 := ⟨_,rfl⟩
 rw [← hRR]
 unfold Ieee.Format.sqrt at hRR
 rw [hr2] at hRR
 obtain ⟨m1,hm1⟩ : ∃ m1 : Nat,m1 = pm 23 (a % 2147483648) := ⟨_,rfl⟩
 obtain ⟨e1,he1⟩ : ∃ e1 : Int,e1 = pe 23 (-149) (a % 2147483648) := ⟨_,rfl⟩
 rw [← hm1,← he1] at PA hRR
 rw [← hm1] at hm1b p1
 rw [← he1] at he1b
 have hm53 : m1 < 8388608 * 2 := hm1b
 generalize a % 2147483648 / 2 ^ 23 = q1 at *
 have HRR := hid hRR
 have HM1 : Hid (m1 < 18446744073709551616) := hid (by omega)
 have HM := hid (show m1 < 9007199254740992 by omega)
 have HEB := hid (show -1100 ≤ e1 ∧ e1 ≤ 2100 by omega)
 have HE1 : Hid (-4611686018427387904 ≤ e1 ∧ e1 ≤ 4611686018427387904) := hid (by have := HEB.out; omega)
 have HP0 := hid p1
 have hS := Sx.new 8 23 w
 clear hRR hr2 hng hm1 he1 hm1b hm53 he1b hq1 p1 hsg h1 ha ha2
 obtain ⟨c0,c1⟩ := id hS.1
 go_enter Tryz.func132,Tryz.ntmps132
 go_upto_region 7 with (first
  | (go_at_call 157; ((with_reducible refine (KA _).out.mono ?_); rintro e w1 ⟨rfl,hb⟩; replace hS := hS.call hb; clear c0 c1; obtain ⟨c0,c1⟩ := id hS.1))
  | (go_at_call 135; ((with_reducible refine (SG _).out.mono ?_); rintro e w1 ⟨rfl,hb⟩; replace hS := hS.call hb; clear c0 c1; obtain ⟨c0,c1⟩ := id hS.1)))
 go_cut [5] (fun s5 wx => ∃ (gx j y : Nat) (d : Int),s5 = .pointer (some ⟨gx,0,none⟩) ∧ Nb gx false y d wx ∧ w.heap.size < gx ∧ Sx 8 23 w wx ∧ Hid (NJ m1 e1 j y d))
 case first =>
  go_wp2_with (first
   | (go_at_call 160; ((with_reducible refine (PA _).out.mono ?_); rintro e w2 ⟨rfl,hb⟩; replace hS := hS.call hb; clear c0 c1; obtain ⟨c0,c1⟩ := id hS.1))
   | (go_at_call 159; ((with_reducible refine (normal_any false m1 HM1.out e1 HE1.out.1 HE1.out.2 _).mono ?_); rintro e w3 ⟨j,hj,hl,hlt,he,hb3⟩; subst he; replace hS := hS.call hb3)))
  go_meet
  exact ⟨w3.heap.size,j,m1 * 2 ^ j,e1 - (j : Int),rfl,Nb.new false (m1 * 2 ^ j) (e1 - (j : Int)) w3,hS.lt,hS.alloc _,hid ⟨hj,hl,hlt,rfl,rfl⟩⟩
 case rest =>
  clear hS c0 c1 PA KA SG HM1 HE1
  obtain ⟨gx,j,y,d,rfl,hX,hgx,hS,HN⟩ := hcut
  obtain ⟨hj,hl,hlt,hy,hd⟩ := HN.out
  have hY := hl HP0.out
  rw [← hy] at hY hlt
  have hj11 : 11 ≤ j := by
   rcases Nat.lt_or_ge j 11 with h | h
   ·exfalso
    have h2 : (2 : Nat) ^ j ≤ 2 ^ 10 := Nat.pow_le_pow_right (by decide) (by omega)
    have h3 : m1 * 2 ^ j ≤ m1 * 2 ^ 10 := Nat.mul_le_mul_left _ h2
    have c : (2 : Nat) ^ 10 = 1024 := by decide
    rw [c] at h3
    have := HM.out
    omega
   ·exact h
  have hHX := hid hX
  have HS := hid hS
  have HG := hid hgx
  obtain ⟨c0,c1⟩ := id hS.1
  obtain ⟨⟨x0,x1,x2⟩,x3,x4,x5⟩ := id hX
  have HN2 := hid (show y < 18446744073709551616 ∧ 9223372036854775808 ≤ y ∧ -3000 ≤ d ∧ d ≤ 3000 by have := HEB.out; omega)
  have HJ := hid (And.intro hj11 (And.intro hy hd))
  obtain ⟨od,hod⟩ : ∃ od : Int,od = d % 2 := ⟨_,rfl⟩
  have h1 : bits .and .i64 d 1 = od := by rw [hod]; exact and_one d
  obtain ⟨ob,hob⟩ : ∃ ob : Bool,(od != 0) = ob := ⟨_,rfl⟩
  have HO := hid (And.intro hod hob)
  clear hX hgx hS hj hl hlt hy hd hY hj11 HN HP0 hod
  go_upto_region 8 with fail
  go_cut [42] (fun s42 wx => s42 = .bool ob ∧ Nb gx false y d wx ∧ Sx 8 23 w wx)
  case first =>
   go_wp2
   go_meet
   exact ⟨rfl,hHX.out,HS.out⟩
  case rest =>
  clear hHX HS c0 c1 x0 x1 x2 x3 x4 x5 h1 hob
  obtain ⟨rfl,hX,hS⟩ := hcut
  have hHX := hid hX
  have HS := hid hS
  obtain ⟨c0,c1⟩ := id hS.1
  obtain ⟨⟨x0,x1,x2⟩,x3,x4,x5⟩ := id hX
  clear hX hS
  go_upto_if 42 with fail
  go_cut [5] (fun s5 wx => ∃ (N : Nat) (E : Int),s5 = .pointer (some ⟨gx,0,none⟩) ∧ Nb gx false N E wx ∧ Sx 8 23 w wx ∧ Hid (4611686018427387904 ≤ N ∧ N < 18446744073709551616 ∧ E % 2 = 0 ∧ -3100 ≤ E ∧ E ≤ 3100 ∧ ∃ K : Nat,N * 2 ^ 56 = m1 * 2 ^ K ∧ e1 - (K : Int) = E - 56))
  case first =>
   cases ob with
   | false =>
    go_wp2
    go_meet
    refine ⟨y,d,rfl,hHX.out,HS.out,hid ?_⟩
    obtain ⟨b1,b2,b3,b4⟩ := HN2.out
    obtain ⟨i1,i2,i3⟩ := HJ.out
    obtain ⟨o1,o2⟩ := HO.out
    have o3 : od = 0 := by simpa using o2
    refine ⟨by omega,b1,by omega,by omega,by omega,j + 56,?_,by omega⟩
    rw [i2,Nat.mul_assoc,← Nat.pow_add]
   | true =>
    obtain ⟨y2,hy2⟩ : ∃ y2 : Nat,y2 = y / 2 := ⟨_,rfl⟩
    obtain ⟨d2,hd2⟩ : ∃ d2 : Int,d2 = d + 1 := ⟨_,rfl⟩
    have g2 : (y : Int) / 2 = (y2 : Int) := by omega
    have g3 : d + 1 = d2 := hd2.symm
    have g4 : wrap64 d2 = d2 := pwrap_in _ (by have := HN2.out; omega) (by have := HN2.out; omega)
    have HO2 := hid (And.intro hy2 hd2)
    clear hy2 hd2
    go_wp2
    go_meet
    refine ⟨y2,d2,rfl,hHX.out.setm.sete,(HS.out.set HG.out).set HG.out,hid ?_⟩
    obtain ⟨b1,b2,b3,b4⟩ := HN2.out
    obtain ⟨i1,i2,i3⟩ := HJ.out
    obtain ⟨o2,o3⟩ := HO2.out
    obtain ⟨o4,o5⟩ := HO.out
    have o6 : ¬ od = 0 := by simpa using o5
    refine ⟨by omega,by omega,by omega,by omega,by omega,j + 55,?_,by omega⟩
    obtain ⟨i,rfl⟩ : ∃ i,j = i + 1 := ⟨j - 1,by omega⟩
    rw [o2,i2,Nat.pow_succ,← Nat.mul_assoc,Nat.mul_div_cancel _ (by decide),Nat.mul_assoc,← Nat.pow_add,show i + 1 + 55 = i + 56 by omega]
  case rest =>
   clear HN2 HJ HO hHX HS c0 c1 x0 x1 x2 x3 x4 x5
   obtain ⟨N,E,rfl,hX,hS,HF⟩ := hcut
   have HX := hid hX
   have HS := hid hS
   obtain ⟨c0,c1⟩ := id hS.1
   obtain ⟨⟨x0,x1,x2⟩,x3,x4,x5⟩ := id hX
   clear hX hS
   go_upto_region 11 with fail
   go_cut [6,7,8] (fun s6 s7 s8 wx => s6 = .int .u64 0 ∧ s7 = .int .u64 0 ∧ s8 = .int .u64 (N : Int) ∧ Nb gx false N E wx ∧ Sx 8 23 w wx)
   case first =>
    go_quiet (fail)
    (go_wp2_with fail)
    go_meet
    exact ⟨rfl,rfl,rfl,HX.out,HS.out.drewN _⟩
   case rest =>
    clear HX HS c0 c1 x0 x1 x2 x3 x4 x5
    obtain ⟨rfl,rfl,rfl,hX,hS⟩ := hcut
    have HX := hid hX
    have HS := hid hS
    clear hX hS
    go_wp2
    go_loop [6,7,8,53] (fun vm vr vl vk => ∃ k m r l : Nat,k ≤ 60 ∧ vk = .int .i64 k ∧ vm = .int .u64 m ∧ vr = .int .u64 r ∧ vl = .int .u64 l ∧ RI N k m r l) (fun _ _ _ vk => 60 - (intOf vk).toNat)
    case atStart => exact ⟨0,0,0,N,by omega,rfl,rfl,rfl,rfl,ri_start N HF.out.2.1⟩
    case round =>
     obtain ⟨k,m,r,l,hk,rfl,rfl,rfl,rfl,hri⟩ := hrel
     by_cases hlt : k < 60
     ·have hk0 : decide ((k : Int) < 60) = true := decide_eq_true (by omega)
      obtain ⟨r4,t,l4,q4,m2,f1,f2,f3,f4,hl4,f5,f6,f7,hm2,f8,hb⟩ := root_loop_math N k m r l hri HF.out.2.1 hlt
      have hst := ri_step hri
      rw [← hl4,← hm2] at hst
      obtain ⟨R,hR⟩ : ∃ R : Nat,R = 4 * r + l / 4611686018427387904 := ⟨_,rfl⟩
      obtain ⟨Q,hQ⟩ : ∃ Q : Nat,Q = 4 * m + 1 := ⟨_,rfl⟩
      rw [← hm2] at f8
      obtain ⟨M2,hM2⟩ : ∃ M2 : Nat,M2 = m2 + 1 := ⟨_,rfl⟩
      rw [← hR] at f3 hst hb
      rw [← hQ] at f6 hst
      rw [← hM2] at f8 hst
      by_cases hc : Q ≤ R
      ·have hd1 : decide ((Q : Int) ≤ (R : Int)) = true := decide_eq_true (by omega)
       have hd2 : decide (Q ≤ R) = true := decide_eq_true hc
       obtain ⟨R2,hR2⟩ : ∃ R2 : Nat,R2 = R - Q := ⟨_,rfl⟩
       have f9 : IntKind.u64.wrap ((R : Int) - (Q : Int)) = (R2 : Int) := by clear f1 f2 f3 f4 f5 f6 f7 f8 hst; rw [IntKind.wrap_u64]; omega
       have HI := hid (hst.1 hc)
       rw [← hR2] at HI
       clear hst hri hl4 hm2 hR hQ hM2 hR2 hc hb
       go_wp2
       all_goals
        go_round
        case rel => exact ⟨k + 1,M2,R2,l4,by omega,by go_num,rfl,rfl,rfl,HI.out⟩
        case measure => simp [intOf]; omega
      ·have hd1 : decide ((Q : Int) ≤ (R : Int)) = false := decide_eq_false (by omega)
       have hd2 : decide (Q ≤ R) = false := decide_eq_false hc
       have HI := hid (hst.2 (by omega))
       clear hst hri hl4 hm2 hR hQ hM2 hc hb f8
       go_wp2
       all_goals
        go_round
        case rel => exact ⟨k + 1,m2,R,l4,by omega,by go_num,rfl,rfl,rfl,HI.out⟩
        case measure => simp [intOf]; omega
     ·have hk60 : k = 60 := by omega
      subst hk60
      have hmb := (ri_bound hri HF.out.2.1 (by decide)).1
      obtain ⟨hre,hsq⟩ := ri_end hri
      obtain ⟨n1,n2,n3,n4,n5,K,n6,n7⟩ := HF.out
      have hmlo : 288230376151711744 ≤ m := by
       rcases Nat.lt_or_ge m 288230376151711744 with h | h
       ·exfalso
        have h2 : (m + 1) * (m + 1) ≤ 288230376151711744 * 288230376151711744 := Nat.mul_le_mul (by omega) (by omega)
        have h3 := hsq.2
        have c : (2 : Nat) ^ 56 = 72057594037927936 := by decide
        rw [c] at h3
        omega
       ·exact h
      obtain ⟨mo,hmo⟩ : ∃ mo : Bool,mo = decide (r ≠ 0) := ⟨_,rfl⟩
      have g1 : ((r : Int) != 0) = mo := by
       rw [hmo]
       by_cases h : r = 0
       ·subst h; rfl
       ·simp [h]
      obtain ⟨h,hh⟩ : ∃ h : Int,E = 2 * h := ⟨E / 2,by omega⟩
      have g2 : Int.tdiv E 2 = h := by rw [hh]; exact Int.mul_tdiv_cancel_left _ (by decide)
      obtain ⟨e3,he3⟩ : ∃ e3 : Int,e3 = h + 32 - 60 := ⟨_,rfl⟩
      obtain ⟨e4,he4⟩ : ∃ e4 : Int,e4 = h + 32 := ⟨_,rfl⟩
      have g3 : h + 32 = e4 := he4.symm
      have g4 : wrap64 h = h := pwrap_in _ (by omega) (by omega)
      have g5 : wrap64 e4 = e4 := pwrap_in _ (by omega) (by omega)
      have g6 : e4 - 60 = e3 := by omega
      have g7 : wrap64 e3 = e3 := pwrap_in _ (by omega) (by omega)
      have hRf : RR = (Ieee.single).word false (rungR Ieee.single m e3 mo) := by
       rw [HRR.out]
       have hrm := root_math (f := Ieee.single) m1 e1 (by intro h0; rw [h0,Nat.zero_mul] at n6; have : 0 < N * 2 ^ 56 := Nat.mul_pos (by omega) (by decide); omega) (K := K) (r := m) (by omega) (by rw [← n6]; exact hsq) (by rw [← n6]; exact Nat.le_trans (by decide) (Nat.mul_le_mul_right _ n1))
       rw [hrm]
       have he : (e1 - (K : Int)) / 2 = e3 := by omega
       have hb : decide (m * m ≠ m1 * 2 ^ K) = mo := by
        rw [hmo,← n6,← hre]
        exact decide_eq_decide.2 ⟨fun h1 h2 => h1 (by rw [h2,Nat.add_zero]),fun h1 h2 => h1 (by omega)⟩
       show (Ieee.single).word false (rungR Ieee.single m ((e1 - (K : Int)) / 2) (decide (m * m ≠ m1 * 2 ^ K))) = _
       rw [he,hb]
      have RC := fun W => hid (round_32 false m (by omega) e3 (by omega) (by omega) mo (fun _ => hmlo) W)
      rw [← hRf] at RC
      obtain ⟨c0,c1⟩ := id HS.out.1
      obtain ⟨⟨x0,x1,x2⟩,-⟩ := id HX.out
      clear hRf hre hsq n1 n2 n3 n4 n5 n6 n7 hmlo hmo hh he3 he4 hmb hri
      go_wp2_with (go_at_call 161; (with_reducible refine (RC _).out.mono ?_); rintro e w5 ⟨rfl,hb5⟩; have HFF := hid (bnext HS.out.2 hb5))
      go_ret
      exact ⟨rfl,HFF.out⟩
set_option maxRecDepth 20000 in
set_option maxHeartbeats 6400000 in
theorem root_32_walk (a k sg X : Nat) (ha : a < 4294967296) (hk : kindOf 2139095040 (a % 2147483648) = k) (hsg : (if 2147483648 ≤ a then 2147483648 else 0) = sg)
  (hw : (k = 1 ∧ X = a) ∨ (k = 4 ∧ X = 2143289344) ∨ (k ≠ 1 ∧ k ≠ 4 ∧ sg ≠ 0 ∧ X = 2143289344) ∨ (k = 3 ∧ sg = 0 ∧ X = a)) (w : World) :
  Calls Tryz.prog 132 #[.agg #[.int .i64 8,.int .i64 23],.int .u64 a] w fun r w' => r = .returned (.int .u64 (X : Int)) ∧ Below w.heap.size w w' := by
 have KA := fun w => hid (kind_32 a ha w)
 have SG := fun w => hid (sign_32 a ha w)
 rw [hk] at KA
 rw [hsg] at SG
 have hS := Sx.new 8 23 w
 obtain ⟨c0,c1⟩ := id hS.1
 clear hk hsg ha
 rcases hw with ⟨rfl,rfl⟩ | ⟨rfl,rfl⟩ | ⟨h1,h2,h3,rfl⟩ | ⟨rfl,rfl,rfl⟩
 ·go_enter Tryz.func132,Tryz.ntmps132
  go_wp2_with (first
   | (go_at_call 157; ((with_reducible refine (KA _).out.mono ?_); rintro e w1 ⟨rfl,hb⟩; replace hS := hS.call hb; clear c0 c1; obtain ⟨c0,c1⟩ := id hS.1)))
  go_ret
  exact ⟨rfl,hS.2⟩
 ·go_enter Tryz.func132,Tryz.ntmps132
  go_wp2_with (first
   | (go_at_call 157; ((with_reducible refine (KA _).out.mono ?_); rintro e w1 ⟨rfl,hb⟩; replace hS := hS.call hb; clear c0 c1; obtain ⟨c0,c1⟩ := id hS.1))
   | (go_at_call 158; ((with_reducible refine (canonical_32 _).mono ?_); rintro e w1 ⟨rfl,hb⟩; replace hS := hS.call hb)))
  go_ret
  exact ⟨rfl,hS.2⟩
 ·have t1 : ((k : Int) == 1) = false := beq_eq_false_iff_ne.2 (by omega)
  have t2 : ((k : Int) == 4) = false := beq_eq_false_iff_ne.2 (by omega)
  have t3 : ((sg : Int) != 0) = true := bne_iff_ne.2 (by omega)
  clear h1 h2 h3
  go_enter Tryz.func132,Tryz.ntmps132
  go_wp2_with (first
   | (go_at_call 157; ((with_reducible refine (KA _).out.mono ?_); rintro e w1 ⟨rfl,hb⟩; replace hS := hS.call hb; clear c0 c1; obtain ⟨c0,c1⟩ := id hS.1))
   | (go_at_call 135; ((with_reducible refine (SG _).out.mono ?_); rintro e w1 ⟨rfl,hb⟩; replace hS := hS.call hb; clear c0 c1; obtain ⟨c0,c1⟩ := id hS.1))
   | (go_at_call 158; ((with_reducible refine (canonical_32 _).mono ?_); rintro e w1 ⟨rfl,hb⟩; replace hS := hS.call hb)))
  go_ret
  exact ⟨rfl,hS.2⟩
 ·go_enter Tryz.func132,Tryz.ntmps132
  go_wp2_with (first
   | (go_at_call 157; ((with_reducible refine (KA _).out.mono ?_); rintro e w1 ⟨rfl,hb⟩; replace hS := hS.call hb; clear c0 c1; obtain ⟨c0,c1⟩ := id hS.1))
   | (go_at_call 135; ((with_reducible refine (SG _).out.mono ?_); rintro e w1 ⟨rfl,hb⟩; replace hS := hS.call hb; clear c0 c1; obtain ⟨c0,c1⟩ := id hS.1)))
  go_ret
  exact ⟨rfl,hS.2⟩
theorem root_32 (a : Nat) (ha : a < 4294967296) (w : World) :
  Calls Tryz.prog 132 #[.agg #[.int .i64 8,.int .i64 23],.int .u64 a] w fun r w' => r = .returned (.int .u64 ((((Ieee.single).sqrt a).getD 2143289344 : Nat) : Int)) ∧ Below w.heap.size w w' := by
 have hb2 : a < 2 * 2147483648 := by omega
 rcases Nat.lt_or_ge 2139095040 (a % 2147483648) with hn | hn
 ·have hs := sqrt_nan fmt_single hn
  rw [hs]
  exact root_32_walk a 4 _ _ ha (by rw [kindOf_four]; exact hn) rfl (.inr (.inl ⟨rfl,rfl⟩)) w
 ·rcases kind_le hn with h | h | h
  ·rw [sqrt_zero fmt_single hb2 h]
   exact root_32_walk a 1 _ _ ha h rfl (.inl ⟨rfl,rfl⟩) w
  ·by_cases hsg : 2147483648 ≤ a
   ·rw [sqrt_neg fmt_single hb2 (.inl h) hsg]
    exact root_32_walk a 2 2147483648 _ ha h (by rw [if_pos hsg]) (.inr (.inr (.inl ⟨by decide,by decide,by decide,rfl⟩))) w
   ·exact root_32_fin a (by omega) h w
  ·by_cases hsg : 2147483648 ≤ a
   ·rw [sqrt_neg fmt_single hb2 (.inr h) hsg]
    exact root_32_walk a 3 2147483648 _ ha h (by rw [if_pos hsg]) (.inr (.inr (.inl ⟨by decide,by decide,by decide,rfl⟩))) w
   ·rw [sqrt_inf fmt_single hb2 h hsg]
    exact root_32_walk a 3 0 _ ha h (by rw [if_neg hsg]) (.inr (.inr (.inr ⟨rfl,rfl,rfl⟩))) w
end Go.Proofs.YtbbmbhcbncenaaaGreatDoor.Fl
namespace Go.Proofs.YtbbmbhcbncenaaaGreatDoor.Fl
open Go.RowKit
set_option maxRecDepth 20000 in
set_option maxHeartbeats 12800000 in
theorem root_64_fin (a : Nat) (ha : a < 9223372036854775808) (h1 : kindOf 9218868437227405312 (a % 9223372036854775808) = 2) (w : World) :
  Calls Tryz.prog 132 #[.agg #[.int .i64 11,.int .i64 52],.int .u64 a] w fun r w' => r = .returned (.int .u64 ((((Ieee.double).sqrt a).getD 9221120237041090560 : Nat) : Int)) ∧ Below w.heap.size w w' := by
 have ha2 : a < 18446744073709551616 := by omega
 have KA := fun w => hid (kind_64 a ha2 w)
 have PA := fun w => hid (parts_64 a ha2 w)
 have SG := fun w => hid (sign_64 a ha2 w)
 rw [h1] at KA
 have hsg : (if 9223372036854775808 ≤ a then 9223372036854775808 else 0) = 0 := by rw [if_neg (by omega)]
 rw [hsg] at SG
 have hng : decide (9223372036854775808 ≤ a) = false := decide_eq_false (by omega)
 rw [hng] at PA
 have p1 := (rk2 fmt_double (by omega) h1).2
 have hr2 := (rk2 fmt_double (by omega) h1).1
 rw [hng] at hr2
 have hm1b := pm_lt 52 (a % 9223372036854775808)
 have he1b := pe_eq 52 (-1074) (a % 9223372036854775808)
 have hq1 : a % 9223372036854775808 / 2 ^ 52 ≤ 2046 := by show a % 9223372036854775808 / 4503599627370496 ≤ 2046; have := (kind2.1 h1).2; omega
 obtain ⟨RR,hRR⟩ : ∃ RR : Nat,RR = ((Ieee.double).sqrt a).getD 9221120237041090560 := ⟨_,rfl⟩
 rw [← hRR]
 unfold Ieee.Format.sqrt at hRR
 rw [hr2] at hRR
 obtain ⟨m1,hm1⟩ : ∃ m1 : Nat,m1 = pm 52 (a % 9223372036854775808) := ⟨_,rfl⟩
 obtain ⟨e1,he1⟩ : ∃ e1 : Int,e1 = pe 52 (-1074) (a % 9223372036854775808) := ⟨_,rfl⟩
 rw [← hm1,← he1] at PA hRR
 rw [← hm1] at hm1b p1
 rw [← he1] at he1b
 have hm53 : m1 < 4503599627370496 * 2 := hm1b
 generalize a % 9223372036854775808 / 2 ^ 52 = q1 at *
 have HRR := hid hRR
 have HM1 : Hid (m1 < 18446744073709551616) := hid (by omega)
 have HM := hid (show m1 < 9007199254740992 by omega)
 have HEB := hid (show -1100 ≤ e1 ∧ e1 ≤ 2100 by omega)
 have HE1 : Hid (-4611686018427387904 ≤ e1 ∧ e1 ≤ 4611686018427387904) := hid (by have := HEB.out; omega)
 have HP0 := hid p1
 have hS := Sx.new 11 52 w
 clear hRR hr2 hng hm1 he1 hm1b hm53 he1b hq1 p1 hsg h1 ha ha2
 obtain ⟨c0,c1⟩ := id hS.1
 go_enter Tryz.func132,Tryz.ntmps132
 go_upto_region 7 with (first
  | (go_at_call 157; ((with_reducible refine (KA _).out.mono ?_); rintro e w1 ⟨rfl,hb⟩; replace hS := hS.call hb; clear c0 c1; obtain ⟨c0,c1⟩ := id hS.1))
  | (go_at_call 135; ((with_reducible refine (SG _).out.mono ?_); rintro e w1 ⟨rfl,hb⟩; replace hS := hS.call hb; clear c0 c1; obtain ⟨c0,c1⟩ := id hS.1)))
 go_cut [5] (fun s5 wx => ∃ (gx j y : Nat) (d : Int),s5 = .pointer (some ⟨gx,0,none⟩) ∧ Nb gx false y d wx ∧ w.heap.size < gx ∧ Sx 11 52 w wx ∧ Hid (NJ m1 e1 j y d))
 case first =>
  go_wp2_with (first
   | (go_at_call 160; ((with_reducible refine (PA _).out.mono ?_); rintro e w2 ⟨rfl,hb⟩; replace hS := hS.call hb; clear c0 c1; obtain ⟨c0,c1⟩ := id hS.1))
   | (go_at_call 159; ((with_reducible refine (normal_any false m1 HM1.out e1 HE1.out.1 HE1.out.2 _).mono ?_); rintro e w3 ⟨j,hj,hl,hlt,he,hb3⟩; subst he; replace hS := hS.call hb3)))
  go_meet
  exact ⟨w3.heap.size,j,m1 * 2 ^ j,e1 - (j : Int),rfl,Nb.new false (m1 * 2 ^ j) (e1 - (j : Int)) w3,hS.lt,hS.alloc _,hid ⟨hj,hl,hlt,rfl,rfl⟩⟩
 case rest =>
  clear hS c0 c1 PA KA SG HM1 HE1
  obtain ⟨gx,j,y,d,rfl,hX,hgx,hS,HN⟩ := hcut
  obtain ⟨hj,hl,hlt,hy,hd⟩ := HN.out
  have hY := hl HP0.out
  rw [← hy] at hY hlt
  have hj11 : 11 ≤ j := by
   rcases Nat.lt_or_ge j 11 with h | h
   ·exfalso
    have h2 : (2 : Nat) ^ j ≤ 2 ^ 10 := Nat.pow_le_pow_right (by decide) (by omega)
    have h3 : m1 * 2 ^ j ≤ m1 * 2 ^ 10 := Nat.mul_le_mul_left _ h2
    have c : (2 : Nat) ^ 10 = 1024 := by decide
    rw [c] at h3
    have := HM.out
    omega
   ·exact h
  have hHX := hid hX
  have HS := hid hS
  have HG := hid hgx
  obtain ⟨c0,c1⟩ := id hS.1
  obtain ⟨⟨x0,x1,x2⟩,x3,x4,x5⟩ := id hX
  have HN2 := hid (show y < 18446744073709551616 ∧ 9223372036854775808 ≤ y ∧ -3000 ≤ d ∧ d ≤ 3000 by have := HEB.out; omega)
  have HJ := hid (And.intro hj11 (And.intro hy hd))
  obtain ⟨od,hod⟩ : ∃ od : Int,od = d % 2 := ⟨_,rfl⟩
  have h1 : bits .and .i64 d 1 = od := by rw [hod]; exact and_one d
  obtain ⟨ob,hob⟩ : ∃ ob : Bool,(od != 0) = ob := ⟨_,rfl⟩
  have HO := hid (And.intro hod hob)
  clear hX hgx hS hj hl hlt hy hd hY hj11 HN HP0 hod
  go_upto_region 8 with fail
  go_cut [42] (fun s42 wx => s42 = .bool ob ∧ Nb gx false y d wx ∧ Sx 11 52 w wx)
  case first =>
   go_wp2
   go_meet
   exact ⟨rfl,hHX.out,HS.out⟩
  case rest =>
  clear hHX HS c0 c1 x0 x1 x2 x3 x4 x5 h1 hob
  obtain ⟨rfl,hX,hS⟩ := hcut
  have hHX := hid hX
  have HS := hid hS
  obtain ⟨c0,c1⟩ := id hS.1
  obtain ⟨⟨x0,x1,x2⟩,x3,x4,x5⟩ := id hX
  clear hX hS
  go_upto_if 42 with fail
  go_cut [5] (fun s5 wx => ∃ (N : Nat) (E : Int),s5 = .pointer (some ⟨gx,0,none⟩) ∧ Nb gx false N E wx ∧ Sx 11 52 w wx ∧ Hid (4611686018427387904 ≤ N ∧ N < 18446744073709551616 ∧ E % 2 = 0 ∧ -3100 ≤ E ∧ E ≤ 3100 ∧ ∃ K : Nat,N * 2 ^ 56 = m1 * 2 ^ K ∧ e1 - (K : Int) = E - 56))
  case first =>
   cases ob with
   | false =>
    go_wp2
    go_meet
    refine ⟨y,d,rfl,hHX.out,HS.out,hid ?_⟩
    obtain ⟨b1,b2,b3,b4⟩ := HN2.out
    obtain ⟨i1,i2,i3⟩ := HJ.out
    obtain ⟨o1,o2⟩ := HO.out
    have o3 : od = 0 := by simpa using o2
    refine ⟨by omega,b1,by omega,by omega,by omega,j + 56,?_,by omega⟩
    rw [i2,Nat.mul_assoc,← Nat.pow_add]
   | true =>
    obtain ⟨y2,hy2⟩ : ∃ y2 : Nat,y2 = y / 2 := ⟨_,rfl⟩
    obtain ⟨d2,hd2⟩ : ∃ d2 : Int,d2 = d + 1 := ⟨_,rfl⟩
    have g2 : (y : Int) / 2 = (y2 : Int) := by omega
    have g3 : d + 1 = d2 := hd2.symm
    have g4 : wrap64 d2 = d2 := pwrap_in _ (by have := HN2.out; omega) (by have := HN2.out; omega)
    have HO2 := hid (And.intro hy2 hd2)
    clear hy2 hd2
    go_wp2
    go_meet
    refine ⟨y2,d2,rfl,hHX.out.setm.sete,(HS.out.set HG.out).set HG.out,hid ?_⟩
    obtain ⟨b1,b2,b3,b4⟩ := HN2.out
    obtain ⟨i1,i2,i3⟩ := HJ.out
    obtain ⟨o2,o3⟩ := HO2.out
    obtain ⟨o4,o5⟩ := HO.out
    have o6 : ¬ od = 0 := by simpa using o5
    refine ⟨by omega,by omega,by omega,by omega,by omega,j + 55,?_,by omega⟩
    obtain ⟨i,rfl⟩ : ∃ i,j = i + 1 := ⟨j - 1,by omega⟩
    rw [o2,i2,Nat.pow_succ,← Nat.mul_assoc,Nat.mul_div_cancel _ (by decide),Nat.mul_assoc,← Nat.pow_add,show i + 1 + 55 = i + 56 by omega]
  case rest =>
   clear HN2 HJ HO hHX HS c0 c1 x0 x1 x2 x3 x4 x5
   obtain ⟨N,E,rfl,hX,hS,HF⟩ := hcut
   have HX := hid hX
   have HS := hid hS
   obtain ⟨c0,c1⟩ := id hS.1
   obtain ⟨⟨x0,x1,x2⟩,x3,x4,x5⟩ := id hX
   clear hX hS
   go_upto_region 11 with fail
   go_cut [6,7,8] (fun s6 s7 s8 wx => s6 = .int .u64 0 ∧ s7 = .int .u64 0 ∧ s8 = .int .u64 (N : Int) ∧ Nb gx false N E wx ∧ Sx 11 52 w wx)
   case first =>
    go_quiet (fail)
    (go_wp2_with fail)
    go_meet
    exact ⟨rfl,rfl,rfl,HX.out,HS.out.drewN _⟩
   case rest =>
    clear HX HS c0 c1 x0 x1 x2 x3 x4 x5
    obtain ⟨rfl,rfl,rfl,hX,hS⟩ := hcut
    have HX := hid hX
    have HS := hid hS
    clear hX hS
    go_wp2
    go_loop [6,7,8,53] (fun vm vr vl vk => ∃ k m r l : Nat,k ≤ 60 ∧ vk = .int .i64 k ∧ vm = .int .u64 m ∧ vr = .int .u64 r ∧ vl = .int .u64 l ∧ RI N k m r l) (fun _ _ _ vk => 60 - (intOf vk).toNat)
    case atStart => exact ⟨0,0,0,N,by omega,rfl,rfl,rfl,rfl,ri_start N HF.out.2.1⟩
    case round =>
     obtain ⟨k,m,r,l,hk,rfl,rfl,rfl,rfl,hri⟩ := hrel
     by_cases hlt : k < 60
     ·have hk0 : decide ((k : Int) < 60) = true := decide_eq_true (by omega)
      obtain ⟨r4,t,l4,q4,m2,f1,f2,f3,f4,hl4,f5,f6,f7,hm2,f8,hb⟩ := root_loop_math N k m r l hri HF.out.2.1 hlt
      have hst := ri_step hri
      rw [← hl4,← hm2] at hst
      obtain ⟨R,hR⟩ : ∃ R : Nat,R = 4 * r + l / 4611686018427387904 := ⟨_,rfl⟩
      obtain ⟨Q,hQ⟩ : ∃ Q : Nat,Q = 4 * m + 1 := ⟨_,rfl⟩
      rw [← hm2] at f8
      obtain ⟨M2,hM2⟩ : ∃ M2 : Nat,M2 = m2 + 1 := ⟨_,rfl⟩
      rw [← hR] at f3 hst hb
      rw [← hQ] at f6 hst
      rw [← hM2] at f8 hst
      by_cases hc : Q ≤ R
      ·have hd1 : decide ((Q : Int) ≤ (R : Int)) = true := decide_eq_true (by omega)
       have hd2 : decide (Q ≤ R) = true := decide_eq_true hc
       obtain ⟨R2,hR2⟩ : ∃ R2 : Nat,R2 = R - Q := ⟨_,rfl⟩
       have f9 : IntKind.u64.wrap ((R : Int) - (Q : Int)) = (R2 : Int) := by clear f1 f2 f3 f4 f5 f6 f7 f8 hst; rw [IntKind.wrap_u64]; omega
       have HI := hid (hst.1 hc)
       rw [← hR2] at HI
       clear hst hri hl4 hm2 hR hQ hM2 hR2 hc hb
       go_wp2
       all_goals
        go_round
        case rel => exact ⟨k + 1,M2,R2,l4,by omega,by go_num,rfl,rfl,rfl,HI.out⟩
        case measure => simp [intOf]; omega
      ·have hd1 : decide ((Q : Int) ≤ (R : Int)) = false := decide_eq_false (by omega)
       have hd2 : decide (Q ≤ R) = false := decide_eq_false hc
       have HI := hid (hst.2 (by omega))
       clear hst hri hl4 hm2 hR hQ hM2 hc hb f8
       go_wp2
       all_goals
        go_round
        case rel => exact ⟨k + 1,m2,R,l4,by omega,by go_num,rfl,rfl,rfl,HI.out⟩
        case measure => simp [intOf]; omega
     ·have hk60 : k = 60 := by omega
      subst hk60
      have hmb := (ri_bound hri HF.out.2.1 (by decide)).1
      obtain ⟨hre,hsq⟩ := ri_end hri
      obtain ⟨n1,n2,n3,n4,n5,K,n6,n7⟩ := HF.out
      have hmlo : 288230376151711744 ≤ m := by
       rcases Nat.lt_or_ge m 288230376151711744 with h | h
       ·exfalso
        have h2 : (m + 1) * (m + 1) ≤ 288230376151711744 * 288230376151711744 := Nat.mul_le_mul (by omega) (by omega)
        have h3 := hsq.2
        have c : (2 : Nat) ^ 56 = 72057594037927936 := by decide
        rw [c] at h3
        omega
       ·exact h
      obtain ⟨mo,hmo⟩ : ∃ mo : Bool,mo = decide (r ≠ 0) := ⟨_,rfl⟩
      have g1 : ((r : Int) != 0) = mo := by
       rw [hmo]
       by_cases h : r = 0
       ·subst h; rfl
       ·simp [h]
      obtain ⟨h,hh⟩ : ∃ h : Int,E = 2 * h := ⟨E / 2,by omega⟩
      have g2 : Int.tdiv E 2 = h := by rw [hh]; exact Int.mul_tdiv_cancel_left _ (by decide)
      obtain ⟨e3,he3⟩ : ∃ e3 : Int,e3 = h + 32 - 60 := ⟨_,rfl⟩
      obtain ⟨e4,he4⟩ : ∃ e4 : Int,e4 = h + 32 := ⟨_,rfl⟩
      have g3 : h + 32 = e4 := he4.symm
      have g4 : wrap64 h = h := pwrap_in _ (by omega) (by omega)
      have g5 : wrap64 e4 = e4 := pwrap_in _ (by omega) (by omega)
      have g6 : e4 - 60 = e3 := by omega
      have g7 : wrap64 e3 = e3 := pwrap_in _ (by omega) (by omega)
      have hRf : RR = (Ieee.double).word false (rungR Ieee.double m e3 mo) := by
       rw [HRR.out]
       have hrm := root_math (f := Ieee.double) m1 e1 (by intro h0; rw [h0,Nat.zero_mul] at n6; have : 0 < N * 2 ^ 56 := Nat.mul_pos (by omega) (by decide); omega) (K := K) (r := m) (by omega) (by rw [← n6]; exact hsq) (by rw [← n6]; exact Nat.le_trans (by decide) (Nat.mul_le_mul_right _ n1))
       rw [hrm]
       have he : (e1 - (K : Int)) / 2 = e3 := by omega
       have hb : decide (m * m ≠ m1 * 2 ^ K) = mo := by
        rw [hmo,← n6,← hre]
        exact decide_eq_decide.2 ⟨fun h1 h2 => h1 (by rw [h2,Nat.add_zero]),fun h1 h2 => h1 (by omega)⟩
       show (Ieee.double).word false (rungR Ieee.double m ((e1 - (K : Int)) / 2) (decide (m * m ≠ m1 * 2 ^ K))) = _
       rw [he,hb]
      have RC := fun W => hid (round_64 false m (by omega) e3 (by omega) (by omega) mo (fun _ => hmlo) W)
      rw [← hRf] at RC
      obtain ⟨c0,c1⟩ := id HS.out.1
      obtain ⟨⟨x0,x1,x2⟩,-⟩ := id HX.out
      clear hRf hre hsq n1 n2 n3 n4 n5 n6 n7 hmlo hmo hh he3 he4 hmb hri
      go_wp2_with (go_at_call 161; (with_reducible refine (RC _).out.mono ?_); rintro e w5 ⟨rfl,hb5⟩; have HFF := hid (bnext HS.out.2 hb5))
      go_ret
      exact ⟨rfl,HFF.out⟩
set_option maxRecDepth 20000 in
set_option maxHeartbeats 6400000 in
theorem root_64_walk (a k sg X : Nat) (ha : a < 18446744073709551616) (hk : kindOf 9218868437227405312 (a % 9223372036854775808) = k) (hsg : (if 9223372036854775808 ≤ a then 9223372036854775808 else 0) = sg)
  (hw : (k = 1 ∧ X = a) ∨ (k = 4 ∧ X = 9221120237041090560) ∨ (k ≠ 1 ∧ k ≠ 4 ∧ sg ≠ 0 ∧ X = 9221120237041090560) ∨ (k = 3 ∧ sg = 0 ∧ X = a)) (w : World) :
  Calls Tryz.prog 132 #[.agg #[.int .i64 11,.int .i64 52],.int .u64 a] w fun r w' => r = .returned (.int .u64 (X : Int)) ∧ Below w.heap.size w w' := by
 have KA := fun w => hid (kind_64 a ha w)
 have SG := fun w => hid (sign_64 a ha w)
 rw [hk] at KA
 rw [hsg] at SG
 have hS := Sx.new 11 52 w
 obtain ⟨c0,c1⟩ := id hS.1
 clear hk hsg ha
 rcases hw with ⟨rfl,rfl⟩ | ⟨rfl,rfl⟩ | ⟨h1,h2,h3,rfl⟩ | ⟨rfl,rfl,rfl⟩
 ·go_enter Tryz.func132,Tryz.ntmps132
  go_wp2_with (first
   | (go_at_call 157; ((with_reducible refine (KA _).out.mono ?_); rintro e w1 ⟨rfl,hb⟩; replace hS := hS.call hb; clear c0 c1; obtain ⟨c0,c1⟩ := id hS.1)))
  go_ret
  exact ⟨rfl,hS.2⟩
 ·go_enter Tryz.func132,Tryz.ntmps132
  go_wp2_with (first
   | (go_at_call 157; ((with_reducible refine (KA _).out.mono ?_); rintro e w1 ⟨rfl,hb⟩; replace hS := hS.call hb; clear c0 c1; obtain ⟨c0,c1⟩ := id hS.1))
   | (go_at_call 158; ((with_reducible refine (canonical_64 _).mono ?_); rintro e w1 ⟨rfl,hb⟩; replace hS := hS.call hb)))
  go_ret
  exact ⟨rfl,hS.2⟩
 ·have t1 : ((k : Int) == 1) = false := beq_eq_false_iff_ne.2 (by omega)
  have t2 : ((k : Int) == 4) = false := beq_eq_false_iff_ne.2 (by omega)
  have t3 : ((sg : Int) != 0) = true := bne_iff_ne.2 (by omega)
  clear h1 h2 h3
  go_enter Tryz.func132,Tryz.ntmps132
  go_wp2_with (first
   | (go_at_call 157; ((with_reducible refine (KA _).out.mono ?_); rintro e w1 ⟨rfl,hb⟩; replace hS := hS.call hb; clear c0 c1; obtain ⟨c0,c1⟩ := id hS.1))
   | (go_at_call 135; ((with_reducible refine (SG _).out.mono ?_); rintro e w1 ⟨rfl,hb⟩; replace hS := hS.call hb; clear c0 c1; obtain ⟨c0,c1⟩ := id hS.1))
   | (go_at_call 158; ((with_reducible refine (canonical_64 _).mono ?_); rintro e w1 ⟨rfl,hb⟩; replace hS := hS.call hb)))
  go_ret
  exact ⟨rfl,hS.2⟩
 ·go_enter Tryz.func132,Tryz.ntmps132
  go_wp2_with (first
   | (go_at_call 157; ((with_reducible refine (KA _).out.mono ?_); rintro e w1 ⟨rfl,hb⟩; replace hS := hS.call hb; clear c0 c1; obtain ⟨c0,c1⟩ := id hS.1))
   | (go_at_call 135; ((with_reducible refine (SG _).out.mono ?_); rintro e w1 ⟨rfl,hb⟩; replace hS := hS.call hb; clear c0 c1; obtain ⟨c0,c1⟩ := id hS.1)))
  go_ret
  exact ⟨rfl,hS.2⟩
theorem root_64 (a : Nat) (ha : a < 18446744073709551616) (w : World) :
  Calls Tryz.prog 132 #[.agg #[.int .i64 11,.int .i64 52],.int .u64 a] w fun r w' => r = .returned (.int .u64 ((((Ieee.double).sqrt a).getD 9221120237041090560 : Nat) : Int)) ∧ Below w.heap.size w w' := by
 have hb2 : a < 2 * 9223372036854775808 := by omega
 rcases Nat.lt_or_ge 9218868437227405312 (a % 9223372036854775808) with hn | hn
 ·have hs := sqrt_nan fmt_double hn
  rw [hs]
  exact root_64_walk a 4 _ _ ha (by rw [kindOf_four]; exact hn) rfl (.inr (.inl ⟨rfl,rfl⟩)) w
 ·rcases kind_le hn with h | h | h
  ·rw [sqrt_zero fmt_double hb2 h]
   exact root_64_walk a 1 _ _ ha h rfl (.inl ⟨rfl,rfl⟩) w
  ·by_cases hsg : 9223372036854775808 ≤ a
   ·rw [sqrt_neg fmt_double hb2 (.inl h) hsg]
    exact root_64_walk a 2 9223372036854775808 _ ha h (by rw [if_pos hsg]) (.inr (.inr (.inl ⟨by decide,by decide,by decide,rfl⟩))) w
   ·exact root_64_fin a (by omega) h w
  ·by_cases hsg : 9223372036854775808 ≤ a
   ·rw [sqrt_neg fmt_double hb2 (.inr h) hsg]
    exact root_64_walk a 3 9223372036854775808 _ ha h (by rw [if_pos hsg]) (.inr (.inr (.inl ⟨by decide,by decide,by decide,rfl⟩))) w
   ·rw [sqrt_inf fmt_double hb2 h hsg]
    exact root_64_walk a 3 0 _ ha h (by rw [if_neg hsg]) (.inr (.inr (.inr ⟨rfl,rfl,rfl⟩))) w
end Go.Proofs.YtbbmbhcbncenaaaGreatDoor.Fl
namespace Go.Proofs.YtbbmbhcbncenaaaGreatDoor.Fl
open Go.RowKit
set_option maxHeartbeats 1600000 in
theorem Un_32_3 (a : Nat) (ha : a < 18446744073709551616) (w : World) :
  Calls Tryz.prog 69 #[.int .i64 32,.int .i64 3,.int .u64 a] w fun e w' => e = .returned (.tuple #[.int .u64 ((unW Ieee.single 2147483648 2139095040 2143289344 3 (a % 4294967296) : Nat) : Int),.int .i64 0]) ∧ Below w.heap.size w w' := by
 have CA := fun w => hid (cut_32 a ha w)
 have ha1 : a % 4294967296 < 4294967296 := by omega
 generalize a % 4294967296 = a1 at *
 have CC : ∀ W,Hid (Calls Tryz.prog 132 #[.agg #[.int .i64 8,.int .i64 23],.int .u64 a1] W fun r w' => r = .returned (.int .u64 ((unW Ieee.single 2147483648 2139095040 2143289344 3 a1 : Nat) : Int)) ∧ Below W.heap.size W w') := fun W => hid (root_32 a1 ha1 W)
 obtain ⟨RR,hRR⟩ : ∃ RR : Nat,RR = unW Ieee.single 2147483648 2139095040 2143289344 3 a1 := ⟨_,rfl⟩
 rw [← hRR] at CC ⊢
 clear ha ha1 hRR
 go_enter Tryz.func69,Tryz.ntmps69
 go_wp2_with (first
  | (go_at_call 120; ((with_reducible refine (formatOf_32 _).mono ?_); rintro e w1 ⟨rfl,hb1⟩))
  | (go_at_call 121; ((with_reducible refine (known_32 _).mono ?_); rintro e w2 ⟨rfl,hb2⟩; have hS := (Sg.new 8 23 hb1).call hb2; have c0 := hS.1.1; have c1 := hS.1.2))
  | (go_at_call 122; ((with_reducible refine (CA _).out.mono ?_); rintro e w3 ⟨rfl,hb3⟩; replace hS := hS.call hb3; clear c0 c1; have c0 := hS.1.1; have c1 := hS.1.2))
  | (go_at_call 132; ((with_reducible refine (CC _).out.mono ?_); rintro e w4 ⟨rfl,hb4⟩; replace hS := hS.call hb4)))
 go_ret2
 exact ⟨rfl,hS.2.2⟩
set_option maxHeartbeats 1600000 in
theorem Un_64_3 (a : Nat) (ha : a < 18446744073709551616) (w : World) :
  Calls Tryz.prog 69 #[.int .i64 64,.int .i64 3,.int .u64 a] w fun e w' => e = .returned (.tuple #[.int .u64 ((unW Ieee.double 9223372036854775808 9218868437227405312 9221120237041090560 3 (a % 18446744073709551616) : Nat) : Int),.int .i64 0]) ∧ Below w.heap.size w w' := by
 have CA := fun w => hid (cut_64 a ha w)
 have ha1 : a % 18446744073709551616 < 18446744073709551616 := by omega
 generalize a % 18446744073709551616 = a1 at *
 have CC : ∀ W,Hid (Calls Tryz.prog 132 #[.agg #[.int .i64 11,.int .i64 52],.int .u64 a1] W fun r w' => r = .returned (.int .u64 ((unW Ieee.double 9223372036854775808 9218868437227405312 9221120237041090560 3 a1 : Nat) : Int)) ∧ Below W.heap.size W w') := fun W => hid (root_64 a1 ha1 W)
 obtain ⟨RR,hRR⟩ : ∃ RR : Nat,RR = unW Ieee.double 9223372036854775808 9218868437227405312 9221120237041090560 3 a1 := ⟨_,rfl⟩
 rw [← hRR] at CC ⊢
 clear ha ha1 hRR
 go_enter Tryz.func69,Tryz.ntmps69
 go_wp2_with (first
  | (go_at_call 120; ((with_reducible refine (formatOf_64 _).mono ?_); rintro e w1 ⟨rfl,hb1⟩))
  | (go_at_call 121; ((with_reducible refine (known_64 _).mono ?_); rintro e w2 ⟨rfl,hb2⟩; have hS := (Sg.new 11 52 hb1).call hb2; have c0 := hS.1.1; have c1 := hS.1.2))
  | (go_at_call 122; ((with_reducible refine (CA _).out.mono ?_); rintro e w3 ⟨rfl,hb3⟩; replace hS := hS.call hb3; clear c0 c1; have c0 := hS.1.1; have c1 := hS.1.2))
  | (go_at_call 132; ((with_reducible refine (CC _).out.mono ?_); rintro e w4 ⟨rfl,hb4⟩; replace hS := hS.call hb4)))
 go_ret2
 exact ⟨rfl,hS.2.2⟩
end Go.Proofs.YtbbmbhcbncenaaaGreatDoor.Fl
