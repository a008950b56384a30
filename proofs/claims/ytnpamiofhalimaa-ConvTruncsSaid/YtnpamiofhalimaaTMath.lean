/-
  A float cut towards 0, as the document's own Trunc does it: in plain numbers. Condition: the words are no NaNs.
-/
import Derived.Test.YtnpamiofhalimaaRConv
import Derived.Test.YtnpamiofhalimaaRVal
set_option linter.unusedSimpArgs false
set_option linter.unusedVariables false
namespace Go.Proofs.Ytnpamiofhalimaa
open Go.RowKit

section
open Ieee

theorem cut_scale (way : Toward) (s : Bool) (n d k : Nat) : way.cut s (n * 2 ^ k) (d + k) = way.cut s n d := by
  have hp : 0 < 2 ^ k := Nat.two_pow_pos k
  have h1 : n * 2 ^ k / 2 ^ (d + k) = n / 2 ^ d := by rw [Nat.pow_add]; exact Nat.mul_div_mul_right _ _ hp
  have h2 : n * 2 ^ k % 2 ^ (d + k) = n % 2 ^ d * 2 ^ k := by rw [Nat.pow_add]; exact Nat.mul_mod_mul_right _ _ _
  rw [cut_plain, cut_plain, h1]
  have : cutUp way s (n * 2 ^ k) (d + k) = cutUp way s n d := by
    unfold cutUp
    rw [h1, h2, Nat.pow_add]
    generalize n % 2 ^ d = r
    generalize 2 ^ d = D
    generalize 2 ^ k = K at *
    cases way
    · have e1 : decide (D * K < 2 * (r * K)) = decide (D < 2 * r) := decide_eq_decide.2 (by
        rw [← Nat.mul_assoc]; exact Nat.mul_lt_mul_right hp)
      have e2 : (D * K == 2 * (r * K)) = (D == 2 * r) := by
        rw [← Nat.mul_assoc]
        by_cases h : D = 2 * r
        · subst h; rw [beq_self_eq_true, beq_self_eq_true]
        · have : ¬ D * K = 2 * r * K := fun h2 => h (Nat.eq_of_mul_eq_mul_right hp h2)
          rw [beq_eq_false_iff_ne.2 this, beq_eq_false_iff_ne.2 h]
      show (decide (D * K < 2 * (r * K)) || (D * K == 2 * (r * K) && n / D % 2 == 1)) = (decide (D < 2 * r) || (D == 2 * r && n / D % 2 == 1))
      rw [e1, e2]
    · have e3 : (r * K != 0) = (r != 0) := by
        by_cases h : r = 0
        · subst h; rw [Nat.zero_mul]
        · have : ¬ r * K = 0 := Nat.mul_ne_zero h (by omega)
          rw [bne_iff_ne.2 this, bne_iff_ne.2 h]
      show (s && (r * K != 0)) = (s && (r != 0))
      rw [e3]
    · have e3 : (r * K != 0) = (r != 0) := by
        by_cases h : r = 0
        · subst h; rw [Nat.zero_mul]
        · have : ¬ r * K = 0 := Nat.mul_ne_zero h (by omega)
          rw [bne_iff_ne.2 this, bne_iff_ne.2 h]
      show (!s && (r * K != 0)) = (!s && (r != 0))
      rw [e3]
    · rfl
  rw [this]

/-- A number moved up, its place moved down, made whole, is the same. -/
theorem wide_integral (way : Toward) (s : Bool) (m : Nat) (e : Int) : (wideD s m e).integral way = .number s (way.cut s (m <<< e.toNat) (-e).toNat) 0 := by
  unfold wideD
  by_cases h0 : m = 0
  · subst h0
    rw [if_pos rfl]
    simp only [Datum.integral, Nat.zero_shiftLeft]
    have hz : ∀ d, way.cut s 0 d = 0 := fun d => by
      rw [cut_plain, Nat.zero_div]
      have : cutUp way s 0 d = false := by
        have hp : 0 < 2 ^ d := Nat.two_pow_pos d
        unfold cutUp
        rw [Nat.zero_mod]
        cases way
        · have : ¬ 2 ^ d = 0 := by omega
          simp
        · simp
        · simp
        · rfl
      rw [this]; rfl
    rw [hz, hz]
  · rw [if_neg h0]
    generalize 52 - m.log2 = k
    simp only [Datum.integral]
    congr 1
    rw [Nat.shiftLeft_eq, Nat.shiftLeft_eq]
    by_cases he : 0 ≤ e
    · obtain ⟨q, rfl⟩ : ∃ q : Nat, e = (q : Int) := ⟨e.toNat, by omega⟩
      rw [show (-(q : Int)).toNat = 0 by omega, Int.toNat_natCast]
      by_cases hk : k ≤ q
      · rw [show ((q : Int) - (k : Int)).toNat = q - k by omega, show (-((q : Int) - (k : Int))).toNat = 0 by omega, Nat.mul_assoc, ← Nat.pow_add, show k + (q - k) = q by omega]
      · rw [show ((q : Int) - (k : Int)).toNat = 0 by omega, show (-((q : Int) - (k : Int))).toNat = k - q by omega, Nat.pow_zero, Nat.mul_one]
        have := cut_scale way s (m * 2 ^ q) 0 (k - q)
        rw [Nat.mul_assoc, ← Nat.pow_add, show q + (k - q) = k by omega, Nat.zero_add] at this
        exact this
    · obtain ⟨q, rfl⟩ : ∃ q : Nat, e = -(q : Int) := ⟨(-e).toNat, by omega⟩
      rw [show (-(q : Int) - (k : Int)).toNat = 0 by omega, show (-(-(q : Int) - (k : Int))).toNat = q + k by omega, show (-(q : Int)).toNat = 0 by omega, show (-(-(q : Int))).toNat = q by omega, Nat.pow_zero, Nat.mul_one, Nat.mul_one]
      exact cut_scale way s m q k


theorem cut_zero (s : Bool) (m : Nat) (e : Int) : Toward.zero.cut s (m <<< e.toNat) (-e).toNat = mag m e := by
  rw [cut_plain, Nat.shiftLeft_eq]
  show m * 2 ^ e.toNat / 2 ^ (-e).toNat + 0 = mag m e
  unfold mag
  by_cases h : e < 0
  · rw [if_pos h, show e.toNat = 0 by omega, Nat.pow_zero, Nat.mul_one, Nat.add_zero]
  · rw [if_neg h, show (-e).toNat = 0 by omega, Nat.pow_zero, Nat.div_one, Nat.add_zero]

def bigE : Nat := 1074
def infE : Nat := 1024
theorem bigE_eq : bigE = 1074 := rfl
/-- 2 to the power of 1074: of it all floats are whole. -/
def BIG : Nat := 2 ^ bigE
/-- 2 to the power of 1024: an infinity. -/
def INFB : Nat := 2 ^ infE
theorem big_pos : 0 < BIG := Nat.two_pow_pos bigE
theorem big_add (q : Nat) : 2 ^ (q + 1074) = 2 ^ q * BIG := by
  rw [← bigE_eq]; exact Nat.pow_add 2 q bigE
theorem big_sub (q : Nat) (h : q ≤ 1074) : BIG = 2 ^ q * 2 ^ (1074 - q) := by
  have := Nat.pow_add 2 q (bigE - q)
  rw [show q + (bigE - q) = bigE by rw [bigE_eq]; omega] at this
  rw [← bigE_eq]; exact this

/-- The word stands for the whole number M with the sign s. -/
def Rd (s : Bool) (M tv : Nat) : Prop := ∃ (m : Nat) (e : Int), double.read tv = .number s m e ∧ -1074 ≤ e ∧ m < 9007199254740992 ∧ m * 2 ^ (e - (-1074)).toNat = M * BIG

theorem rd_write (s : Bool) (m : Nat) (e : Int) (hm : m < 9007199254740992) (h0 : 0 ≤ e) (h1 : e ≤ 900) : Rd s (m * 2 ^ e.toNat) (double.write (.number s m e)) := by
  obtain ⟨hr, hlt, hfin, hs⟩ := read_write_double s m e hm (by omega) h1
  have hp := read_fin fmt_double.sb fmt_double.fr fmt_double.lp hlt hfin
  have hpm := pm_lt 52 (double.write (.number s m e) % 9223372036854775808)
  generalize double.write (.number s m e) = tv at *
  refine ⟨_, _, hp.trans (by rw [hs]), ?_, hpm, ?_⟩
  · have := pe_eq 52 (-1074) (tv % 9223372036854775808); omega
  · rw [hr] at hp
    generalize pm 52 (tv % 9223372036854775808) = m' at *
    generalize pe 52 (-1074) (tv % 9223372036854775808) = e' at *
    unfold wideD at hp
    by_cases hz : m = 0
    · rw [if_pos hz] at hp
      injection hp with a1 a2 a3
      rw [← a2, hz, Nat.zero_mul, Nat.zero_mul, Nat.zero_mul]
    · rw [if_neg hz] at hp
      injection hp with a1 a2 a3
      have hk : 52 - m.log2 ≤ 52 := Nat.sub_le _ _
      generalize 52 - m.log2 = k at *
      obtain ⟨q, rfl⟩ : ∃ q : Nat, e = (q : Int) := ⟨e.toNat, by omega⟩
      rw [← a2, ← a3, Int.toNat_natCast, Nat.mul_assoc, Nat.mul_assoc, ← big_add, ← Nat.pow_add, show k + ((q : Int) - (k : Int) - (-1074)).toNat = q + 1074 by omega]

theorem scale_write (f : Format) (s : Bool) (m q : Nat) : f.write (.number s (m * 2 ^ q) 0) = f.write (.number s m (q : Int)) := by
  show f.nearest _ _ _ = f.nearest _ _ _
  rw [nearest_eq, nearest_eq]
  have := rungOf_scale f m (q : Int) q
  rw [show (q : Int) - (q : Int) = 0 by omega] at this
  rw [this]

theorem rd_mag (s : Bool) (m : Nat) (e : Int) (hm : m < 9007199254740992) (h1 : e ≤ 900) : Rd s (mag m e) (double.write (.number s (mag m e) 0)) := by
  unfold mag
  by_cases h : e < 0
  · rw [if_pos h]
    have h2 := Nat.div_le_self m (2 ^ (-e).toNat)
    have := rd_write s (m / 2 ^ (-e).toNat) 0 (by omega) (by decide) (by decide)
    rw [show ((0 : Int)).toNat = 0 from rfl, Nat.pow_zero, Nat.mul_one] at this
    exact this
  · rw [if_neg h, scale_write]
    rw [show (e.toNat : Int) = e by omega]
    exact rd_write s m e hm (by omega) h1

/-- What the cut of a float of 32 bits stands for. -/
theorem tv_32 {c : Nat} (hc : c < 2 * 2147483648) (h : c % 2147483648 < 2139095040) :
    Rd (decide (2147483648 ≤ c)) (mag (pm 23 (c % 2147483648)) (pe 23 (-149) (c % 2147483648))) (double.write ((double.read (vS c)).integral .zero)) := by
  rcases (vS_read hc (by omega)).1 with ⟨h1, h2, h3⟩ | ⟨h1, _, _⟩
  · have hb := single_bounds hc h1
    rw [h2, wide_integral, cut_zero]
    exact rd_mag _ _ _ hb.1 hb.2.2
  · omega

/-- What the cut of a float of 64 bits stands for. -/
theorem tv_64 {c : Nat} (hc : c < 2 * 9223372036854775808) (h : c % 9223372036854775808 < 9218868437227405312) :
    Rd (decide (9223372036854775808 ≤ c)) (mag (pm 52 (c % 9223372036854775808)) (pe 52 (-1074) (c % 9223372036854775808))) (double.write ((double.read c).integral .zero)) := by
  have hr := read_fin fmt_double.sb fmt_double.fr fmt_double.lp hc h
  have hm := pm_lt 52 (c % 9223372036854775808)
  have he := pe_eq 52 (-1074) (c % 9223372036854775808)
  by_cases h0 : 0 ≤ pe 52 (-1074) (c % 9223372036854775808)
  · have hk : kindOf 9218868437227405312 (c % 9223372036854775808) = 1 ∨ kindOf 9218868437227405312 (c % 9223372036854775808) = 2 := by
      by_cases hz : c % 9223372036854775808 = 0
      · exact .inl (kind1.2 hz)
      · exact .inr (kind2.2 ⟨hz, h⟩)
    rw [whole_big fmt_double hc hk h0]
    refine ⟨_, _, hr, by omega, hm, ?_⟩
    unfold mag
    generalize pe 52 (-1074) (c % 9223372036854775808) = e at *
    obtain ⟨q, rfl⟩ : ∃ q : Nat, e = (q : Int) := ⟨e.toNat, by omega⟩
    rw [if_neg (by omega), Int.toNat_natCast, Nat.mul_assoc, ← big_add, show ((q : Int) - (-1074)).toNat = q + 1074 by omega]
  · rw [hr]
    simp only [Datum.integral]
    rw [cut_zero]
    exact rd_mag _ _ _ hm (by omega)

/-- The word stands for a whole number, or for an infinity, which is beyond every integer. -/
def Ro (s : Bool) (M tv : Nat) : Prop := Rd s M tv ∨ (double.read tv = .infinity s ∧ M = INFB)
/-- A constant of the document's. -/
def Kc (kw : Nat) (t : Bool) (K : Nat) : Prop := ∃ (n : Nat) (j : Int), double.read kw = .number t n j ∧ -1074 ≤ j ∧ n * 2 ^ (j - (-1074)).toNat = K * BIG

theorem sgn_scale (s t : Bool) (A B P : Nat) (hP : 0 < P) : compare (sgn s (A * P)) (sgn t (B * P)) = compare (sgn s A) (sgn t B) := by
  have key : ∀ (s : Bool) (A : Nat), sgn s (A * P) = sgn s A * (P : Int) := fun s A => by
    unfold sgn; cases s
    · simp
    · simp only [if_true]; rw [Int.natCast_mul, Int.neg_mul]
  rw [key, key]
  have hp : (0 : Int) < (P : Int) := by omega
  refine compare_congr ?_ ?_
  · exact ⟨fun h => Int.lt_of_mul_lt_mul_right h (Int.le_of_lt hp), fun h => Int.mul_lt_mul_of_pos_right h hp⟩
  · exact ⟨fun h => Int.eq_of_mul_eq_mul_right (by omega) h, fun h => by rw [h]⟩

theorem order_k {s t : Bool} {M tv kw K : Nat} (h : Ro s M tv) (hk : Kc kw t K) (hK : K < INFB) : double.order tv kw = some (compare (sgn s M) (sgn t K)) := by
  obtain ⟨n, j, k1, k2, k3⟩ := hk
  rcases h with ⟨m, e, h1, h2, _, h3⟩ | ⟨h1, h2⟩
  · unfold Format.order
    rw [h1, k1, order_num s t m n e j (-1074) h2 k2, h3, k3, sgn_scale s t M K _ big_pos]
  · unfold Format.order
    rw [h1, k1]
    show some (if s then Ordering.lt else Ordering.gt) = _
    rw [h2]
    generalize INFB = X at *
    cases s <;> cases t
    · exact congrArg some (cmp_gt (by unfold sgn; simp only [Bool.false_eq_true, if_false]; omega)).symm
    · exact congrArg some (cmp_gt (by unfold sgn; simp only [Bool.false_eq_true, if_false, if_true]; omega)).symm
    · exact congrArg some (cmp_lt (by unfold sgn; simp only [Bool.false_eq_true, if_false, if_true]; omega)).symm
    · exact congrArg some (cmp_lt (by unfold sgn; simp only [if_true]; omega)).symm

theorem exact_mag {m M : Nat} {e : Int} (h0 : -1074 ≤ e) (h : m * 2 ^ (e - (-1074)).toNat = M * BIG) : mag m e = M := by
  unfold mag
  by_cases he : e < 0
  · rw [if_pos he]
    obtain ⟨q, rfl⟩ : ∃ q : Nat, e = -(q : Int) := ⟨(-e).toNat, by omega⟩
    rw [Int.neg_neg, Int.toNat_natCast]
    rw [show (-(q : Int) - (-1074)).toNat = 1074 - q by omega] at h
    rw [big_sub q (by omega), ← Nat.mul_assoc] at h
    have h2 := Nat.eq_of_mul_eq_mul_right (Nat.two_pow_pos (1074 - q)) h
    rw [h2]
    exact Nat.mul_div_cancel _ (Nat.two_pow_pos q)
  · rw [if_neg he]
    obtain ⟨q, rfl⟩ : ∃ q : Nat, e = (q : Int) := ⟨e.toNat, by omega⟩
    rw [Int.toNat_natCast]
    rw [show ((q : Int) - (-1074)).toNat = q + 1074 by omega, big_add, ← Nat.mul_assoc] at h
    exact Nat.eq_of_mul_eq_mul_right big_pos h

theorem toInt_zero (s : Bool) (m : Nat) (e : Int) : (Datum.number s m e).toInt .zero = some (sgn s (mag m e)) := by
  unfold Datum.toInt
  simp only [Datum.integral]
  rw [cut_zero]
  unfold signed sgn
  simp only [Nat.shiftLeft_zero]

theorem conv_k {s : Bool} {M tv : Nat} (h : Rd s M tv) (h1 : -9223372036854775808 ≤ sgn s M) (h2 : sgn s M ≤ 9223372036854775807) : floatToIntVal .f64 tv .i64 = some (sgn s M) := by
  obtain ⟨m, e, hr, h0, _, h3⟩ := h
  have hm := exact_mag h0 h3
  unfold floatToIntVal
  show (match (double.read tv).toInt .zero with | some n => if IntKind.i64.min ≤ n ∧ n ≤ IntKind.i64.max then some n else none | none => none) = some (sgn s M)
  rw [hr, toInt_zero, hm]
  simp only []
  rw [if_pos ⟨h1, h2⟩]

theorem sub_num (Y M : Nat) (hM : Y * 2048 = M) (h : 4503599627370496 ≤ Y) : (Y - 4503599627370496) * 2048 = M - 9223372036854775808 := by rw [Nat.sub_mul, hM]

/-- A number of at least 2^63 and below 2^64, less 2^63. -/
theorem sub_k {M tv : Nat} (h : Rd false M tv) (h1 : 9223372036854775808 ≤ M) (h2 : M < 18446744073709551616) :
    ∃ r, double.sub tv 4890909195324358656 = some r ∧ floatToIntVal .f64 r .i64 = some ((M : Int) - 9223372036854775808) := by
  obtain ⟨m, e, hr, h0, hm, h3⟩ := h
  have hmag := exact_mag h0 h3
  have he : 11 ≤ e := by
    rcases Int.lt_or_le e 11 with h4 | h4
    · exfalso
      unfold mag at hmag
      by_cases hn : e < 0
      · rw [if_pos hn] at hmag
        have := Nat.div_le_self m (2 ^ (-e).toNat)
        omega
      · rw [if_neg hn] at hmag
        have h5 : (2 : Nat) ^ e.toNat ≤ 2 ^ 10 := Nat.pow_le_pow_right (by decide) (by omega)
        have h6 : m * 2 ^ e.toNat ≤ m * 2 ^ 10 := Nat.mul_le_mul_left _ h5
        have c : (2 : Nat) ^ 10 = 1024 := by decide
        rw [c] at h6
        omega
    · exact h4
  have hk : double.read 4890909195324358656 = .number false 4503599627370496 11 := by decide +kernel
  obtain ⟨q, rfl⟩ : ∃ q : Nat, e = (q : Int) + 11 := ⟨(e - 11).toNat, by omega⟩
  have hM : m * 2 ^ q * 2048 = M := by
    unfold mag at hmag
    rw [if_neg (by omega), show ((q : Int) + 11).toNat = q + 11 by omega, Nat.pow_add, ← Nat.mul_assoc] at hmag
    exact hmag
  obtain ⟨Y, hY⟩ : ∃ Y : Nat, Y = m * 2 ^ q := ⟨_, rfl⟩
  rw [← hY] at hM
  have hY1 : 4503599627370496 ≤ Y := by omega
  have hY2 : Y < 9007199254740992 := by omega
  refine ⟨double.write (.number false (Y - 4503599627370496) 11), ?_, ?_⟩
  · unfold Format.sub
    rw [hr, hk]
    simp only [Datum.opposite, Datum.sum, Option.map_some]
    have hb : min ((q : Int) + 11) 11 = 11 := by omega
    rw [hb]
    have ht : signed false m ((q : Int) + 11 - 11).toNat + signed (!false) 4503599627370496 ((11 : Int) - 11).toNat = ((Y - 4503599627370496 : Nat) : Int) := by
      unfold signed
      rw [show ((q : Int) + 11 - 11).toNat = q by omega, show ((11 : Int) - 11).toNat = 0 by decide, Nat.shiftLeft_eq, ← hY]
      simp only [Bool.not_false, if_true, Nat.shiftLeft_zero, Bool.false_eq_true, if_false]
      omega
    have hX : ∀ D : Nat, (if ((D : Nat) : Int) = 0 then (false && !false) else decide (((D : Nat) : Int) < 0)) = false := fun D => by
      by_cases hz : ((D : Nat) : Int) = 0
      · rw [if_pos hz]; rfl
      · rw [if_neg hz]; exact decide_eq_false (by omega)
    rw [ht, Int.natAbs_natCast, hX]
  · have hb := rd_write false (Y - 4503599627370496) 11 (by omega) (by decide) (by decide)
    have e1 : (Y - 4503599627370496) * 2 ^ ((11 : Int)).toNat = M - 9223372036854775808 := by
      rw [show (2 : Nat) ^ ((11 : Int)).toNat = 2048 by decide]
      exact sub_num Y M hM hY1
    rw [e1] at hb
    have hs : sgn false (M - 9223372036854775808) = (M : Int) - 9223372036854775808 := by unfold sgn; simp; omega
    have := conv_k hb (by rw [hs]; omega) (by rw [hs]; omega)
    rw [this, hs]

theorem kc_0 : Kc 0 false 0 := ⟨0, -1074, by decide +kernel, by decide, by rw [Nat.zero_mul, Nat.zero_mul]⟩
theorem kc_31 : Kc 4746794007248502784 false 2147483648 := ⟨4503599627370496, -21, by decide +kernel, by decide, by decide +kernel⟩
theorem kc_n31 : Kc 13970166044103278592 true 2147483648 := ⟨4503599627370496, -21, by decide +kernel, by decide, by decide +kernel⟩
theorem kc_32 : Kc 4751297606875873280 false 4294967296 := ⟨4503599627370496, -20, by decide +kernel, by decide, by decide +kernel⟩
theorem kc_63 : Kc 4890909195324358656 false 9223372036854775808 := ⟨4503599627370496, 11, by decide +kernel, by decide, by decide +kernel⟩
theorem kc_n63 : Kc 14114281232179134464 true 9223372036854775808 := ⟨4503599627370496, 11, by decide +kernel, by decide, by decide +kernel⟩
theorem kc_64 : Kc 4895412794951729152 false 18446744073709551616 := ⟨4503599627370496, 12, by decide +kernel, by decide, by decide +kernel⟩
end
/-- A number made whole, by what it stands for; of a NaN that is told by a drawn question. -/
def toI (q : Question) (way : Ieee.Toward) (v : Nat) (d : Ieee.Datum) : Sem Value :=
  match d with
  | .nan s t => if FloatKind.f64.format.quiet t = t then pure (.float .f64 v) else do
      let n ← choose q
      pure (.float .f64 (if n == 1 then v else FloatKind.f64.encode (.nan s (FloatKind.f64.format.quiet t))))
  | d => pure (.float .f64 (FloatKind.f64.encode (d.integral way)))

theorem toI_eq (name : String) (way : Ieee.Toward) (v : Nat) : ∃ q, q.forced = false ∧ Extern.MathFloor.toIntegral name way #[.float .f64 v] = toI q way v (FloatKind.f64.decode v) := by refine ⟨_, ?_, rfl⟩; rfl

theorem integral_num (name : String) (way : Ieee.Toward) (v : Nat) (hv : v % 9223372036854775808 ≤ 9218868437227405312) (w : World) :
    (Extern.MathFloor.toIntegral name way #[.float .f64 v]).run Try.prog w = .ok (.float .f64 (Ieee.double.write ((Ieee.double.read v).integral way))) w := by
  obtain ⟨q, -, h⟩ := toI_eq name way v
  rw [h]
  have hn : ∀ s t, Ieee.double.read v ≠ .nan s t := fun s t h' => by
    unfold Ieee.Format.read at h'
    simp only [] at h'
    split at h'
    · cases h'
    · split at h'
      · cases h'
      · split at h'
        · cases h'
        · rename_i g1 g2 g3
          have g2' : ¬ v % 9223372036854775808 < 9218868437227405312 := g2
          have g3' : ¬ v % 9223372036854775808 = 9218868437227405312 := g3
          omega
  show (toI q way v (Ieee.double.read v)).run Try.prog w = _
  cases hd : Ieee.double.read v with
  | nan s t => exact absurd hd (hn s t)
  | number s m e => rfl
  | infinity s => rfl


end Go.Proofs.Ytnpamiofhalimaa
