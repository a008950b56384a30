/-
  FQuoMath, FOpMath, FQuo: merged, what the law does not reach left out (each text says what it holds where it lies in wip). No condition.
-/
import Derived.Test.YtbbmbhcbncenaaaGreatDoorG12
import Derived.Test.YtbbmbhcbncenaaaGreatDoorG09
import Derived.Test.YtbbmbhcbncenaaaGreatDoorG10
import Derived.Test.YtbbmbhcbncenaaaGreatDoorG11
import Derived.RegionTactic
import Derived.Test.YtbbmbhcbncenaaaGreatDoorG01
set_option linter.unusedSimpArgs false
set_option linter.unusedVariables false
set_option maxRecDepth 100000
namespace Go.Proofs.YtbbmbhcbncenaaaGreatDoor.Fl
open Ieee
def rungD (f : Format) (A B : Nat) (e : Int) : Nat := rungR f (A / B) e (decide (A % B ≠ 0))
theorem rungD_mul (f : Format) (A B c : Nat) (hc : 0 < c) (e : Int) : rungD f (A * c) (B * c) e = rungD f A B e := by
 unfold rungD
 rw [Nat.mul_div_mul_right _ _ hc,Nat.mul_mod_mul_right]
 congr 1
 apply decide_eq_decide.2
 constructor
 ·intro h h2; exact h (by rw [h2,Nat.zero_mul])
 ·intro h h2
  rcases Nat.mul_eq_zero.1 h2 with h3 | h3
  ·exact h h3
  ·omega
theorem rungD_scale (f : Format) (A B k : Nat) (hB : 0 < B) (e : Int) (h : 2 ^ (f.fractionBits + 1) ≤ A / B) : rungD f (A * 2 ^ k) B (e - k) = rungD f A B e := by
 unfold rungD rungR
 have hk : 0 < 2 ^ k := Nat.two_pow_pos k
 have hk1 : (2 : Nat) ^ (k + 1) = 2 * 2 ^ k := by rw [Nat.pow_succ]; omega
 obtain ⟨Q,hQ⟩ : ∃ Q,Q = A * 2 ^ k / B := ⟨_,rfl⟩
 obtain ⟨r,hr⟩ : ∃ r,r = A * 2 ^ k % B := ⟨_,rfl⟩
 rw [← hQ,← hr]
 have hdm := Nat.div_add_mod (A * 2 ^ k) B
 rw [← hQ,← hr] at hdm
 have hrl : r < B := by rw [hr]; exact Nat.mod_lt _ hB
 have hq : Q / 2 ^ k = A / B := by rw [hQ,Nat.div_div_eq_div_mul,Nat.mul_comm B,Nat.mul_comm A,Nat.mul_div_mul_left _ _ hk]
 have hMd : (2 * Q + (decide (r ≠ 0)).toNat) / 2 ^ (k + 1) = A / B := by
  have hb := Bool.toNat_le (decide (r ≠ 0))
  rw [hk1,← Nat.div_div_eq_div_mul,show (2 * Q + (decide (r ≠ 0)).toNat) / 2 = Q by omega,hq]
 have hMm : (2 * Q + (decide (r ≠ 0)).toNat) % 2 ^ (k + 1) = 0 ↔ A % B = 0 := by
  have hb := Bool.toNat_le (decide (r ≠ 0))
  have hAB := Nat.div_add_mod A B
  have hQm := Nat.div_add_mod Q (2 ^ k)
  rw [hq] at hQm
  constructor
  ·intro h0
   have hdvd : 2 ^ (k + 1) ∣ 2 * Q + (decide (r ≠ 0)).toNat := Nat.dvd_of_mod_eq_zero h0
   have hr0 : r = 0 := by
    have h2 : (2 * Q + (decide (r ≠ 0)).toNat) % 2 = 0 := Nat.mod_eq_zero_of_dvd (Nat.dvd_trans ⟨2 ^ k,hk1⟩ hdvd)
    by_cases hr0 : r = 0
    ·exact hr0
    ·have : (decide (r ≠ 0)).toNat = 1 := by simp [hr0]
     omega
   have hQd : Q % 2 ^ k = 0 := by
    rw [hr0] at hdvd
    have : 2 * 2 ^ k ∣ 2 * Q := by rw [← hk1]; simpa using hdvd
    exact Nat.mod_eq_zero_of_dvd (Nat.dvd_of_mul_dvd_mul_left (by decide) this)
   rw [hQd] at hQm
   rw [hr0] at hdm
   -- A * 2^k = B * Q = B * (2^k * (A/B))
   have h3 : A * 2 ^ k = B * (A / B) * 2 ^ k := by
    rw [← Nat.add_zero (A * 2 ^ k),← hdm,← hQm]
    simp only [Nat.add_zero]
    rw [Nat.mul_comm (2 ^ k) (A / B),Nat.mul_assoc]
   have h4 := Nat.eq_of_mul_eq_mul_right hk h3
   omega
  ·intro h0
   have h1 : A = B * (A / B) := by omega
   have h2 : A * 2 ^ k = B * (A / B * 2 ^ k) := by rw [← Nat.mul_assoc,← h1]
   have hr0 : r = 0 := by rw [hr,h2,Nat.mul_mod_right]
   have hQe : Q = A / B * 2 ^ k := by rw [hQ,h2,Nat.mul_div_cancel_left _ hB]
   rw [hr0,hQe,hk1]
   simp only [ne_eq,not_true_eq_false,decide_false,Bool.toNat_false,Nat.add_zero]
   rw [show 2 * (A / B * 2 ^ k) = A / B * (2 * 2 ^ k) by rw [← Nat.mul_assoc,← Nat.mul_assoc,Nat.mul_comm 2]]
   exact Nat.mul_mod_left _ _
 have := rungOf_jam f (2 * Q + (decide (r ≠ 0)).toNat) (k + 1) (e - k - 1) (by rw [hMd]; exact h)
 rw [← this]
 unfold jam
 rw [hMd]
 congr 1
 ·congr 1
  by_cases h0 : A % B = 0
  ·rw [if_pos (hMm.2 h0)]; simp [h0]
  ·rw [if_neg (fun h => h0 (hMm.1 h))]; simp [h0]
 ·omega
theorem rungD_pow (f : Format) (A B : Nat) (hB : 0 < B) (E : Int) (K1 K2 : Nat) (h1 : 2 ^ (f.fractionBits + 1) ≤ A * 2 ^ K1 / B) (h2 : 2 ^ (f.fractionBits + 1) ≤ A * 2 ^ K2 / B) :
  rungD f (A * 2 ^ K1) B (E - K1) = rungD f (A * 2 ^ K2) B (E - K2) := by
 rcases Nat.le_total K1 K2 with h | h
 ·have := rungD_scale f (A * 2 ^ K1) B (K2 - K1) hB (E - K1) h1
  rw [Nat.mul_assoc,← Nat.pow_add,show K1 + (K2 - K1) = K2 by omega,show E - (K1 : Int) - ((K2 - K1 : Nat) : Int) = E - K2 by omega] at this
  exact this.symm
 ·have := rungD_scale f (A * 2 ^ K2) B (K1 - K2) hB (E - K2) h2
  rw [Nat.mul_assoc,← Nat.pow_add,show K2 + (K1 - K2) = K1 by omega,show E - (K2 : Int) - ((K1 - K2 : Nat) : Int) = E - K1 by omega] at this
  exact this
theorem quo_math {f : Format} (hP : f.fractionBits ≤ 52) (sx sy : Bool) {m1 m2 j1 j2 : Nat} (e1 e2 : Int) (h1 : m1 ≠ 0) (h2 : m2 ≠ 0)
  (hm1 : m1 < 2 ^ (f.fractionBits + 1)) (hX : 9223372036854775808 ≤ m1 * 2 ^ j1) (hX2 : m1 * 2 ^ j1 < 18446744073709551616) (hY : 9223372036854775808 ≤ m2 * 2 ^ j2) (hY2 : m2 * 2 ^ j2 < 18446744073709551616) (hj2 : j2 ≤ 63) (hm2 : m2 < 2 ^ (f.fractionBits + 1)) :
  (Datum.quotient (f.fractionBits + 2) (.number sx m1 e1) (.number sy m2 e2)).map f.write =
   some (f.word (sx ^^ sy) (rungD f (2 ^ 62 * (m1 * 2 ^ j1 / 2)) (2 * (m2 * 2 ^ j2 / 2)) (e1 - j1 - (e2 - j2) - 61))) := by
 simp only [Datum.quotient,if_neg h2,Option.map_some,Option.some.injEq,Format.write]
 rw [nearest_eq]
 congr 1
 have h2p : 0 < m2 := by omega
 obtain ⟨mo,hmo⟩ : ∃ mo,mo = f.fractionBits + 2 + m2.log2 - m1.log2 := ⟨_,rfl⟩
 rw [← hmo,Nat.shiftLeft_eq]
 have hl1 := Nat.log2_self_le h1
 have hl2 := @Nat.lt_log2_self m2
 have q2 : 2 ^ (f.fractionBits + 1) ≤ m1 * 2 ^ mo / m2 := by
  rw [Nat.le_div_iff_mul_le h2p]
  calc 2 ^ (f.fractionBits + 1) * m2 ≤ 2 ^ (f.fractionBits + 1) * 2 ^ (m2.log2 + 1) := Nat.mul_le_mul_left _ (by omega)
   _ = 2 ^ (f.fractionBits + 1 + (m2.log2 + 1)) := by rw [← Nat.pow_add]
   _ ≤ 2 ^ (m1.log2 + mo) := Nat.pow_le_pow_right (by decide) (by omega)
   _ = 2 ^ m1.log2 * 2 ^ mo := Nat.pow_add ..
   _ ≤ m1 * 2 ^ mo := Nat.mul_le_mul_right _ hl1
 have hpow : ∀ {m j : Nat},m < 2 ^ (f.fractionBits + 1) → 9223372036854775808 ≤ m * 2 ^ j → 11 ≤ j := fun {m j} hm hj => by
  rcases Nat.lt_or_ge j 11 with h | h
  ·exfalso
   have a1 : (2 : Nat) ^ j ≤ 2 ^ 10 := Nat.pow_le_pow_right (by decide) (by omega)
   have a2 : (2 : Nat) ^ (f.fractionBits + 1) ≤ 2 ^ 53 := Nat.pow_le_pow_right (by decide) (by omega)
   have a3 : m * 2 ^ j < 2 ^ 53 * 2 ^ 10 := Nat.lt_of_lt_of_le (Nat.mul_lt_mul_of_pos_right (Nat.lt_of_lt_of_le hm a2) (Nat.two_pow_pos j)) (Nat.mul_le_mul_left _ a1)
   have a4 : (2 : Nat) ^ 53 * 2 ^ 10 = 9223372036854775808 := by decide
   omega
  ·exact h
 have hj1 := hpow hm1 hX
 have hj2b := hpow hm2 hY
 have half : ∀ {m j : Nat},1 ≤ j → 2 * (m * 2 ^ j / 2) = m * 2 ^ j := fun {m j} h => by
  obtain ⟨i,rfl⟩ : ∃ i,j = i + 1 := ⟨j - 1,by omega⟩
  rw [Nat.pow_succ,← Nat.mul_assoc,Nat.mul_div_cancel _ (by decide),Nat.mul_comm]
 have hA : 2 ^ 62 * (m1 * 2 ^ j1 / 2) = m1 * 2 ^ (61 + j1) := by
  have := half (m := m1) (j := j1) (by omega)
  rw [show (2 : Nat) ^ 62 = 2 ^ 61 * 2 by decide,Nat.mul_assoc,this,Nat.pow_add,← Nat.mul_assoc,← Nat.mul_assoc,Nat.mul_comm (2 ^ 61) m1]
 rw [hA,half (m := m2) (j := j2) (by omega)]
 have hsplit : m1 * 2 ^ (61 + j1) = m1 * 2 ^ (61 + j1 - j2) * 2 ^ j2 := by rw [Nat.mul_assoc,← Nat.pow_add]; congr 2; omega
 rw [hsplit,rungD_mul f _ _ _ (Nat.two_pow_pos j2)]
 have q1 : 2 ^ (f.fractionBits + 1) ≤ m1 * 2 ^ (61 + j1 - j2) / m2 := by
  have a2 : (2 : Nat) ^ (f.fractionBits + 1) ≤ 2 ^ 53 := Nat.pow_le_pow_right (by decide) (by omega)
  refine Nat.le_trans a2 ?_
  rw [Nat.le_div_iff_mul_le h2p]
  have hp := Nat.two_pow_pos j2
  apply Nat.le_of_mul_le_mul_right _ hp
  rw [← hsplit,Nat.mul_assoc,Nat.pow_add,show m1 * (2 ^ 61 * 2 ^ j1) = 2 ^ 61 * (m1 * 2 ^ j1) by rw [← Nat.mul_assoc,← Nat.mul_assoc,Nat.mul_comm m1]]
  calc 2 ^ 53 * (m2 * 2 ^ j2) ≤ 2 ^ 53 * 18446744073709551616 := Nat.mul_le_mul_left _ (by omega)
   _ ≤ 2 ^ 61 * 9223372036854775808 := by decide
   _ ≤ 2 ^ 61 * (m1 * 2 ^ j1) := Nat.mul_le_mul_left _ hX
 have key := rungD_pow f m1 m2 h2p (e1 - e2) mo (61 + j1 - j2) q2 q1
 rw [show e1 - (j1 : Int) - (e2 - (j2 : Int)) - 61 = e1 - e2 - ((61 + j1 - j2 : Nat) : Int) by omega,← key]
 unfold rungD rungR
 congr 2
 by_cases h0 : m1 * 2 ^ mo % m2 = 0
 ·simp [h0]
 ·simp [h0]
end Go.Proofs.YtbbmbhcbncenaaaGreatDoor.Fl
namespace Go.Proofs.YtbbmbhcbncenaaaGreatDoor.Fl
open Ieee
structure Fmt (f : Format) (SB INF P : Nat) (low : Int) : Prop where
 sb : f.signWeight = SB
 inf : f.infRung = INF
 fr : f.fractionBits = P
 lp : f.leastPlace = low
 bi : f.binade ≤ f.infRung
 p52 : P ≤ 52
 inf0 : 0 < INF
theorem fmt_single : Fmt single 2147483648 2139095040 23 (-149) := ⟨rfl,rfl,rfl,rfl,by decide,by decide,by decide⟩
theorem fmt_double : Fmt double 9223372036854775808 9218868437227405312 52 (-1074) := ⟨rfl,rfl,rfl,rfl,by decide,by decide,by decide⟩
theorem kind1 {INF s : Nat} : kindOf INF s = 1 ↔ s = 0 := by
 unfold kindOf; split
 ·simp [*]
 ·split
  ·simp [*]
  ·split
   ·simp; omega
   ·simp [*]
theorem kind3 {INF s : Nat} (h0 : 0 < INF) : kindOf INF s = 3 ↔ s = INF := by
 unfold kindOf; split
 ·simp; omega
 ·split
  ·simp; omega
  ·split <;> simp [*]
theorem kind2 {INF s : Nat} : kindOf INF s = 2 ↔ s ≠ 0 ∧ s < INF := by
 unfold kindOf; split
 ·simp [*]
 ·split
  ·simp [*]
  ·split
   ·simp; omega
   ·simp; omega
theorem kind_le {INF s : Nat} (h : s ≤ INF) : kindOf INF s = 1 ∨ kindOf INF s = 2 ∨ kindOf INF s = 3 := by
 unfold kindOf; split
 ·exact .inl rfl
 ·split
  ·exact .inr (.inl rfl)
  ·rw [if_pos (by omega)]; exact .inr (.inr rfl)
section
variable {f : Format} {SB INF P : Nat} {low : Int} (F : Fmt f SB INF P low) {a b : Nat}
include F
theorem rk1 (ha : a < 2 * SB) (h : kindOf INF (a % SB) = 1) : f.read a = .number (decide (SB ≤ a)) 0 (pe P low (a % SB)) := by
 have h0 := kind1.1 h
 rw [read_fin F.sb F.fr F.lp ha (by rw [F.inf,h0]; exact F.inf0)]
 have : pm P (a % SB) = 0 := by rw [h0]; unfold pm; simp
 rw [this]
theorem rk2 (ha : a < 2 * SB) (h : kindOf INF (a % SB) = 2) : f.read a = .number (decide (SB ≤ a)) (pm P (a % SB)) (pe P low (a % SB)) ∧ pm P (a % SB) ≠ 0 := by
 have h0 := kind2.1 h
 refine ⟨read_fin F.sb F.fr F.lp ha (by rw [F.inf]; exact h0.2),?_⟩
 unfold pm; split
 ·exact h0.1
 ·have := Nat.two_pow_pos P; omega
theorem rk3 (ha : a < 2 * SB) (h : kindOf INF (a % SB) = 3) : f.read a = .infinity (decide (SB ≤ a)) :=
 read_inf F.sb ha F.bi (by rw [F.inf]; exact (kind3 F.inf0).1 h)
theorem div_can (ha : a < 2 * SB) (hb : b < 2 * SB) (h : kindOf INF (a % SB) = 1 ∧ kindOf INF (b % SB) = 1 ∨ kindOf INF (a % SB) = 3 ∧ kindOf INF (b % SB) = 3) : f.div a b = none := by
 unfold Format.div
 rcases h with ⟨h1,h2⟩ | ⟨h1,h2⟩
 ·rw [rk1 F ha h1,rk1 F hb h2]; rfl
 ·rw [rk3 F ha h1,rk3 F hb h2]; rfl
theorem div_inf (ha : a < 2 * SB) (hb : b < 2 * SB) (h : kindOf INF (a % SB) = 3 ∧ (kindOf INF (b % SB) = 1 ∨ kindOf INF (b % SB) = 2) ∨ kindOf INF (a % SB) = 2 ∧ kindOf INF (b % SB) = 1) :
  f.div a b = some (f.word (decide (SB ≤ a) ^^ decide (SB ≤ b)) INF) := by
 unfold Format.div
 rw [← F.inf]
 rcases h with ⟨h1,h2 | h2⟩ | ⟨h1,h2⟩
 ·rw [rk3 F ha h1,rk1 F hb h2]; rfl
 ·rw [rk3 F ha h1,(rk2 F hb h2).1]; rfl
 ·have h3 := rk2 F ha h1
  rw [h3.1,rk1 F hb h2]
  simp only [Datum.quotient,if_true,if_neg h3.2]; rfl
theorem div_zero (ha : a < 2 * SB) (hb : b < 2 * SB) (h : kindOf INF (a % SB) = 1 ∧ (kindOf INF (b % SB) = 2 ∨ kindOf INF (b % SB) = 3) ∨ kindOf INF (a % SB) = 2 ∧ kindOf INF (b % SB) = 3) :
  f.div a b = some (f.word (decide (SB ≤ a) ^^ decide (SB ≤ b)) 0) := by
 unfold Format.div
 rcases h with ⟨h1,h2 | h2⟩ | ⟨h1,h2⟩
 ·have h3 := rk2 F hb h2
  rw [rk1 F ha h1,h3.1]
  simp only [Datum.quotient,if_neg h3.2,Nat.zero_shiftLeft,Nat.zero_div,Nat.zero_mod,Option.map_some,Format.write]
  rw [nearest_eq]; rfl
 ·rw [rk1 F ha h1,rk3 F hb h2]
  simp only [Datum.quotient,Option.map_some,Format.write]
  rw [nearest_eq]; rfl
 ·rw [(rk2 F ha h1).1,rk3 F hb h2]
  simp only [Datum.quotient,Option.map_some,Format.write]
  rw [nearest_eq]; rfl
theorem div_fin (ha : a < 2 * SB) (hb : b < 2 * SB) (h1 : kindOf INF (a % SB) = 2) (h2 : kindOf INF (b % SB) = 2) {j1 j2 : Nat}
  (hX : 9223372036854775808 ≤ pm P (a % SB) * 2 ^ j1) (hX2 : pm P (a % SB) * 2 ^ j1 < 18446744073709551616) (hY : 9223372036854775808 ≤ pm P (b % SB) * 2 ^ j2) (hY2 : pm P (b % SB) * 2 ^ j2 < 18446744073709551616) (hj2 : j2 ≤ 63) :
  f.div a b = some (f.word (decide (SB ≤ a) ^^ decide (SB ≤ b)) (rungD f (2 ^ 62 * (pm P (a % SB) * 2 ^ j1 / 2)) (2 * (pm P (b % SB) * 2 ^ j2 / 2)) (pe P low (a % SB) - j1 - (pe P low (b % SB) - j2) - 61))) := by
 have h3 := rk2 F ha h1
 have h4 := rk2 F hb h2
 unfold Format.div
 rw [h3.1,h4.1]
 exact quo_math (by rw [F.fr]; exact F.p52) _ _ _ _ h3.2 h4.2 (by rw [F.fr]; exact pm_lt _ _) hX hX2 hY hY2 hj2 (by rw [F.fr]; exact pm_lt _ _)
theorem mul_can (ha : a < 2 * SB) (hb : b < 2 * SB) (h : kindOf INF (a % SB) = 1 ∧ kindOf INF (b % SB) = 3 ∨ kindOf INF (a % SB) = 3 ∧ kindOf INF (b % SB) = 1) : f.mul a b = none := by
 unfold Format.mul
 rcases h with ⟨h1,h2⟩ | ⟨h1,h2⟩
 ·rw [rk1 F ha h1,rk3 F hb h2]; rfl
 ·rw [rk3 F ha h1,rk1 F hb h2]; rfl
theorem mul_inf (ha : a < 2 * SB) (hb : b < 2 * SB) (h : kindOf INF (a % SB) = 3 ∧ (kindOf INF (b % SB) = 3 ∨ kindOf INF (b % SB) = 2) ∨ kindOf INF (a % SB) = 2 ∧ kindOf INF (b % SB) = 3) :
  f.mul a b = some (f.word (decide (SB ≤ a) ^^ decide (SB ≤ b)) INF) := by
 unfold Format.mul
 rw [← F.inf]
 rcases h with ⟨h1,h2 | h2⟩ | ⟨h1,h2⟩
 ·rw [rk3 F ha h1,rk3 F hb h2]; rfl
 ·have h3 := rk2 F hb h2
  rw [rk3 F ha h1,h3.1]
  simp only [Datum.product,if_neg h3.2]; rfl
 ·have h3 := rk2 F ha h1
  rw [h3.1,rk3 F hb h2]
  simp only [Datum.product,if_neg h3.2]
  rw [Bool.xor_comm]; rfl
theorem mul_fin (ha : a < 2 * SB) (hb : b < 2 * SB) (h1 : kindOf INF (a % SB) = 1 ∨ kindOf INF (a % SB) = 2) (h2 : kindOf INF (b % SB) = 1 ∨ kindOf INF (b % SB) = 2) :
  f.mul a b = some (f.word (decide (SB ≤ a) ^^ decide (SB ≤ b)) (rungOf f (pm P (a % SB) * pm P (b % SB)) (pe P low (a % SB) + pe P low (b % SB)))) := by
 have hfin : ∀ c,(kindOf INF c = 1 ∨ kindOf INF c = 2) → c < INF := fun c h => by
  rcases h with h | h
  ·rw [kind1.1 h]; exact F.inf0
  ·exact (kind2.1 h).2
 unfold Format.mul
 rw [read_fin F.sb F.fr F.lp ha (by rw [F.inf]; exact hfin _ h1),read_fin F.sb F.fr F.lp hb (by rw [F.inf]; exact hfin _ h2)]
 simp only [Datum.product,Option.map_some,Format.write]
 rw [nearest_eq]
end
theorem xor_top {k a b : Nat} (ha : a < 2 * 2 ^ k) (hb : b < 2 * 2 ^ k) : decide (2 ^ k ≤ a ^^^ b) = (decide (2 ^ k ≤ a) ^^ decide (2 ^ k ≤ b)) ∧ a ^^^ b < 2 * 2 ^ k := by
 have top : ∀ x,x < 2 * 2 ^ k → x.testBit k = decide (2 ^ k ≤ x) := fun x hx => by
  have hp : 0 < 2 ^ k := Nat.two_pow_pos k
  rw [Nat.testBit_eq_decide_div_mod_eq]
  by_cases hc : 2 ^ k ≤ x
  ·have : x / 2 ^ k = 1 := by rw [Nat.div_eq_iff hp]; omega
   simp [this,hc]
  ·have : x / 2 ^ k = 0 := Nat.div_eq_of_lt (by omega)
   simp [this,hc]
 have e : 2 * 2 ^ k = 2 ^ (k + 1) := by rw [Nat.pow_succ]; omega
 have hx : a ^^^ b < 2 * 2 ^ k := by rw [e] at ha hb ⊢; exact Nat.xor_lt_two_pow ha hb
 exact ⟨by rw [← top _ hx,← top a ha,← top b hb,Nat.testBit_xor],hx⟩
end Go.Proofs.YtbbmbhcbncenaaaGreatDoor.Fl
namespace Go.Proofs.YtbbmbhcbncenaaaGreatDoor.Fl
open Go.RowKit
def NJ (m : Nat) (e : Int) (j y : Nat) (d : Int) : Prop := j ≤ 63 ∧ (m ≠ 0 → 9223372036854775808 ≤ m * 2 ^ j) ∧ m * 2 ^ j < 18446744073709551616 ∧ y = m * 2 ^ j ∧ d = e - j
theorem dstep (N D : Nat) (hD : 0 < D) : (D ≤ 2 * (N % D) → 2 * N / D = 2 * (N / D) + 1 ∧ 2 * N % D = 2 * (N % D) - D) ∧ (2 * (N % D) < D → 2 * N / D = 2 * (N / D) ∧ 2 * N % D = 2 * (N % D)) := by
 have h := Nat.div_add_mod N D
 have hl := Nat.mod_lt N hD
 generalize N / D = q at *
 generalize N % D = r at *
 have e : D * (2 * q) = 2 * (D * q) := by rw [Nat.mul_left_comm]
 constructor
 ·intro h1
  have : 2 * N = (2 * r - D) + D * (2 * q + 1) := by rw [Nat.mul_add]; omega
  rw [this]
  constructor
  ·rw [Nat.add_mul_div_left _ _ hD,Nat.div_eq_of_lt (by omega)]; omega
  ·rw [Nat.add_mul_mod_self_left,Nat.mod_eq_of_lt (by omega)]
 ·intro h1
  have : 2 * N = 2 * r + D * (2 * q) := by omega
  rw [this]
  constructor
  ·rw [Nat.add_mul_div_left _ _ hD,Nat.div_eq_of_lt (by omega)]; omega
  ·rw [Nat.add_mul_mod_self_left,Nat.mod_eq_of_lt (by omega)]
theorem or_one (q : Nat) : 2 * q ||| 1 = 2 * q + 1 := by
 have := Nat.two_pow_add_eq_or_of_lt (i := 1) (b := 1) (by decide) q
 rw [show 2 ^ 1 * q = 2 * q by rfl] at this
 exact this.symm
set_option maxRecDepth 20000 in
set_option maxHeartbeats 6400000 in
theorem quo_32_eq (a b ka kb : Nat) (ha : a < 4294967296) (hb : b < 4294967296) (h1 : kindOf 2139095040 (a % 2147483648) = ka) (h2 : kindOf 2139095040 (b % 2147483648) = kb) (hk : kb = ka ∧ (ka = 1 ∨ ka = 3)) (w : World) :
  Calls Tryz.prog 164 #[.agg #[.int .i64 8,.int .i64 23],.int .u64 a,.int .u64 b] w fun r w' => r = .returned (.int .u64 ((((Ieee.single).div a b).getD 2143289344 : Nat) : Int)) ∧ Below w.heap.size w w' := by
 have KA := fun w => hid (kind_32 a ha w)
 have KB := fun w => hid (kind_32 b hb w)
 rw [h1] at KA
 rw [h2] at KB
 have hx := xor_top (k := 31) (a := a) (b := b) (by omega) (by omega)
 rw [show (2 : Nat) ^ 31 = 2147483648 by decide] at hx
 obtain ⟨xr,hxr⟩ : ∃ xr : Nat,xr = a ^^^ b := ⟨_,rfl⟩
 have hxb : bits .xor .u64 (a : Int) (b : Int) = (xr : Int) := by rw [hxr]; exact bits_xor_u64_nat a b (by omega) (by omega)
 rw [← hxr] at hx
 have SG := fun w => hid (sign_32 xr hx.2 w)
 obtain ⟨sg,hsg⟩ : ∃ sg : Nat,sg = if 2147483648 ≤ xr then 2147483648 else 0 := ⟨_,rfl⟩
 rw [← hsg] at SG
 have hsb : (decide (2147483648 ≤ a) ^^ decide (2147483648 ≤ b)) = decide (2147483648 ≤ xr) := hx.1.symm
 have hR : ((Ieee.single).div a b).getD 2143289344 = 2143289344 := by
  rw [div_can fmt_single (by omega) (by omega) (by rw [h1,h2]; omega)]; rfl
 rw [hR]
 obtain ⟨RR,hRR⟩ : ∃ RR : Nat,RR = 2143289344 := ⟨_,rfl⟩
 skip
 rw [← hRR]
 subst hRR; clear hsg
 obtain ⟨rfl,hk⟩ := hk
 have t2 : ((kb : Int) != 2) = true := bne_iff_ne.2 (by omega)
 clear hk
 have hS := Sx.new 8 23 w
 clear hR hsb hx hxr h1 h2 ha hb
 obtain ⟨c0,c1⟩ := id hS.1
 go_enter Tryz.func164,Tryz.ntmps164
 go_upto_region 2 with (first
  | (go_at_call 135; ((with_reducible refine (SG _).out.mono ?_); rintro e w1 ⟨rfl,hb⟩; replace hS := hS.call hb; clear c0 c1; obtain ⟨c0,c1⟩ := id hS.1)))
 go_cut [18] (fun s18 wx => s18 = .bool true ∧ Sx 8 23 w wx)
 case first =>
  replace hS := hS.drew
  refine wp_region_held_drew (S := Sx 8 23 w) (by kernel_rfl) hS (fun _ => ?_)
  clear c0 c1 hb
  generalize w1.drew = W at *
  refine zt 0 (.agg #[.int .i64 8,.int .i64 23]) rfl ?_ ?_
  ·(intro W hSw; obtain ⟨⟨c0,c1⟩,-⟩ := hSw; go_simp; try (with_reducible rfl))
  try simp only [Act.put,sl2,sl0,sl1]
  refine zt 1 (.int .u64 a) rfl ?_ ?_
  ·(intro W hSw; obtain ⟨⟨c0,c1⟩,-⟩ := hSw; go_simp; try (with_reducible rfl))
  try simp only [Act.put,sl2,sl0,sl1]
  refine zt 3 (.agg #[.int .i64 8,.int .i64 23]) rfl ?_ ?_
  ·(intro W hSw; obtain ⟨⟨c0,c1⟩,-⟩ := hSw; go_simp; try (with_reducible rfl))
  try simp only [Act.put,sl2,sl0,sl1]
  refine zt 4 (.int .u64 b) rfl ?_ ?_
  ·(intro W hSw; obtain ⟨⟨c0,c1⟩,-⟩ := hSw; go_simp; try (with_reducible rfl))
  try simp only [Act.put,sl2,sl0,sl1]
  refine zr 2 rfl (fun K hK => ?_)
  go_simp
  go_at_call 157
  (with_reducible refine (KA _).out.mono ?_)
  rintro e W1 ⟨rfl,hb⟩
  replace hS := hS.call hb
  clear hb
  refine hK.out _ _ hS (fun _ => ?_)
  clear hK K
  try simp only [Act.put,sl2,sl0,sl1]
  refine zr 5 rfl (fun K hK => ?_)
  go_simp
  go_at_call 157
  (with_reducible refine (KB _).out.mono ?_)
  rintro e W2 ⟨rfl,hb⟩
  replace hS := hS.call hb
  clear hb
  refine hK.out _ _ hS (fun _ => ?_)
  clear hK K
  try simp only [Act.put,sl2,sl0,sl1]
  refine zt 6 (.bool true) rfl ?_ ?_
  ·(intro W hSw; obtain ⟨⟨c0,c1⟩,-⟩ := hSw; go_simp; try (with_reducible rfl))
  try simp only [Act.put,sl2,sl0,sl1]
  refine zt 7 (.bool true) rfl ?_ ?_
  ·(intro W hSw; obtain ⟨⟨c0,c1⟩,-⟩ := hSw; go_simp; try (with_reducible rfl))
  try simp only [Act.put,sl2,sl0,sl1]
  refine zt 8 (.agg #[.int .i64 8,.int .i64 23]) rfl ?_ ?_
  ·(intro W hSw; obtain ⟨⟨c0,c1⟩,-⟩ := hSw; go_simp; try (with_reducible rfl))
  try simp only [Act.put,sl2,sl0,sl1]
  refine zt 9 (.int .u64 a) rfl ?_ ?_
  ·(intro W hSw; obtain ⟨⟨c0,c1⟩,-⟩ := hSw; go_simp; try (with_reducible rfl))
  try simp only [Act.put,sl2,sl0,sl1]
  refine zr 10 rfl (fun K hK => ?_)
  go_simp
  go_at_call 157
  (with_reducible refine (KA _).out.mono ?_)
  rintro e W3 ⟨rfl,hb⟩
  replace hS := hS.call hb
  clear hb
  refine hK.out _ _ hS (fun _ => ?_)
  clear hK K
  try simp only [Act.put,sl2,sl0,sl1]
  refine zt 11 (.bool true) rfl ?_ ?_
  ·(intro W hSw; obtain ⟨⟨c0,c1⟩,-⟩ := hSw; go_simp; try (with_reducible rfl))
  try simp only [Act.put,sl2,sl0,sl1]
  refine zt 12 (.bool true) rfl ?_ ?_
  ·(intro W hSw; obtain ⟨⟨c0,c1⟩,-⟩ := hSw; go_simp; try (with_reducible rfl))
  try simp only [Act.put,sl2,sl0,sl1]
  refine zt 13 (.bool true) rfl ?_ ?_
  ·(intro W hSw; obtain ⟨⟨c0,c1⟩,-⟩ := hSw; go_simp; try (with_reducible rfl))
  try simp only [Act.put,sl2,sl0,sl1]
  refine wpAnyH_done (by kernel_rfl) ?_ _
  (go_wp2_with fail)
  go_meet
  exact ⟨rfl,hS⟩
 case rest =>
  clear hS c0 c1 hb
  obtain ⟨rfl,hS⟩ := hcut
  obtain ⟨c0,c1⟩ := id hS.1
  skip
  go_wp2_with (first
   | (go_at_call 157; ((with_reducible refine (KA _).out.mono ?_); rintro e w1 ⟨rfl,hb⟩; replace hS := hS.call hb; have c0 := hS.1.1; have c1 := hS.1.2))
   | (go_at_call 157; ((with_reducible refine (KB _).out.mono ?_); rintro e w1 ⟨rfl,hb⟩; replace hS := hS.call hb; have c0 := hS.1.1; have c1 := hS.1.2))
   | (go_at_call 158; ((with_reducible refine (canonical_32 _).mono ?_); rintro e w1 ⟨rfl,hb⟩; replace hS := hS.call hb))
   | (go_at_call 174; ((with_reducible refine (infinity_32 _).mono ?_); rintro e w1 ⟨rfl,hb⟩; replace hS := hS.call hb)))
  all_goals
   go_ret
   exact ⟨rfl,hS.2⟩
set_option maxRecDepth 20000 in
set_option maxHeartbeats 6400000 in
theorem quo_32_inf (a b ka kb : Nat) (ha : a < 4294967296) (hb : b < 4294967296) (h1 : kindOf 2139095040 (a % 2147483648) = ka) (h2 : kindOf 2139095040 (b % 2147483648) = kb) (hk : ka ≠ kb ∧ (ka = 3 ∨ (ka ≠ 3 ∧ kb = 1)) ∧ (ka = 1 ∨ ka = 2 ∨ ka = 3) ∧ (kb = 1 ∨ kb = 2 ∨ kb = 3)) (w : World) :
  Calls Tryz.prog 164 #[.agg #[.int .i64 8,.int .i64 23],.int .u64 a,.int .u64 b] w fun r w' => r = .returned (.int .u64 ((((Ieee.single).div a b).getD 2143289344 : Nat) : Int)) ∧ Below w.heap.size w w' := by
 have KA := fun w => hid (kind_32 a ha w)
 have KB := fun w => hid (kind_32 b hb w)
 rw [h1] at KA
 rw [h2] at KB
 have hx := xor_top (k := 31) (a := a) (b := b) (by omega) (by omega)
 rw [show (2 : Nat) ^ 31 = 2147483648 by decide] at hx
 obtain ⟨xr,hxr⟩ : ∃ xr : Nat,xr = a ^^^ b := ⟨_,rfl⟩
 have hxb : bits .xor .u64 (a : Int) (b : Int) = (xr : Int) := by rw [hxr]; exact bits_xor_u64_nat a b (by omega) (by omega)
 rw [← hxr] at hx
 have SG := fun w => hid (sign_32 xr hx.2 w)
 obtain ⟨sg,hsg⟩ : ∃ sg : Nat,sg = if 2147483648 ≤ xr then 2147483648 else 0 := ⟨_,rfl⟩
 rw [← hsg] at SG
 have hsb : (decide (2147483648 ≤ a) ^^ decide (2147483648 ≤ b)) = decide (2147483648 ≤ xr) := hx.1.symm
 have hR : ((Ieee.single).div a b).getD 2143289344 = (sg + 2139095040) := by
  rw [div_inf fmt_single (by omega) (by omega) (by rw [h1,h2]; omega),hsb,hsg]; unfold Ieee.Format.word; by_cases h : 2147483648 ≤ xr <;> simp [h,show (Ieee.single).signWeight = 2147483648 from rfl]
 rw [hR]
 obtain ⟨RR,hRR⟩ : ∃ RR : Nat,RR = (sg + 2139095040) := ⟨_,rfl⟩
 have hor : bits .or .u64 (sg : Int) 2139095040 = (RR : Int) := by
  have h9 := bits_or_u64_nat sg 2139095040 (by rw [hsg]; split <;> decide) (by decide)
  have h7 : sg ||| 2139095040 = RR := by
   rw [hRR,hsg]
   by_cases h : 2147483648 ≤ xr
   ·rw [if_pos h]; decide
   ·rw [if_neg h]; simp
  rw [h7] at h9
  exact h9
 rw [← hRR]
 clear hRR hsg
 have t0 : ((ka : Int) == (kb : Int)) = false := beq_eq_false_iff_ne.2 (by omega)
 have t1 : (((ka : Int) == 3) = true) ∨ (((ka : Int) == 3) = false ∧ ((kb : Int) == 1) = true) := by
  rcases hk.2.1 with h | ⟨h,h'⟩
  ·exact .inl (by rw [h]; rfl)
  ·exact .inr ⟨beq_eq_false_iff_ne.2 (by omega),by rw [h']; rfl⟩
 clear hk
 have hS := Sx.new 8 23 w
 clear hR hsb hx hxr h1 h2 ha hb
 obtain ⟨c0,c1⟩ := id hS.1
 go_enter Tryz.func164,Tryz.ntmps164
 go_upto_region 2 with (first
  | (go_at_call 135; ((with_reducible refine (SG _).out.mono ?_); rintro e w1 ⟨rfl,hb⟩; replace hS := hS.call hb; clear c0 c1; obtain ⟨c0,c1⟩ := id hS.1)))
 go_cut [18] (fun s18 wx => s18 = .bool false ∧ Sx 8 23 w wx)
 case first =>
  replace hS := hS.drew
  refine wp_region_held_drew (S := Sx 8 23 w) (by kernel_rfl) hS (fun _ => ?_)
  clear c0 c1 hb
  generalize w1.drew = W at *
  refine zt 0 (.agg #[.int .i64 8,.int .i64 23]) rfl ?_ ?_
  ·(intro W hSw; obtain ⟨⟨c0,c1⟩,-⟩ := hSw; go_simp; try (with_reducible rfl))
  try simp only [Act.put,sl2,sl0,sl1]
  refine zt 1 (.int .u64 a) rfl ?_ ?_
  ·(intro W hSw; obtain ⟨⟨c0,c1⟩,-⟩ := hSw; go_simp; try (with_reducible rfl))
  try simp only [Act.put,sl2,sl0,sl1]
  refine zt 3 (.agg #[.int .i64 8,.int .i64 23]) rfl ?_ ?_
  ·(intro W hSw; obtain ⟨⟨c0,c1⟩,-⟩ := hSw; go_simp; try (with_reducible rfl))
  try simp only [Act.put,sl2,sl0,sl1]
  refine zt 4 (.int .u64 b) rfl ?_ ?_
  ·(intro W hSw; obtain ⟨⟨c0,c1⟩,-⟩ := hSw; go_simp; try (with_reducible rfl))
  try simp only [Act.put,sl2,sl0,sl1]
  refine zr 2 rfl (fun K hK => ?_)
  go_simp
  go_at_call 157
  (with_reducible refine (KA _).out.mono ?_)
  rintro e W1 ⟨rfl,hb⟩
  replace hS := hS.call hb
  clear hb
  refine hK.out _ _ hS (fun _ => ?_)
  clear hK K
  try simp only [Act.put,sl2,sl0,sl1]
  refine zr 5 rfl (fun K hK => ?_)
  go_simp
  go_at_call 157
  (with_reducible refine (KB _).out.mono ?_)
  rintro e W2 ⟨rfl,hb⟩
  replace hS := hS.call hb
  clear hb
  refine hK.out _ _ hS (fun _ => ?_)
  clear hK K
  try simp only [Act.put,sl2,sl0,sl1]
  refine zt 6 (.bool false) rfl ?_ ?_
  ·(intro W hSw; obtain ⟨⟨c0,c1⟩,-⟩ := hSw; go_simp; try (with_reducible rfl))
  try simp only [Act.put,sl2,sl0,sl1]
  refine zt 7 (.bool false) rfl ?_ ?_
  ·(intro W hSw; obtain ⟨⟨c0,c1⟩,-⟩ := hSw; go_simp; try (with_reducible rfl))
  try simp only [Act.put,sl2,sl0,sl1]
  refine zu 8 rfl ?_
  try simp only [Act.put,sl2,sl0,sl1]
  refine zu 9 rfl ?_
  try simp only [Act.put,sl2,sl0,sl1]
  refine zu 10 rfl ?_
  try simp only [Act.put,sl2,sl0,sl1]
  refine zu 11 rfl ?_
  try simp only [Act.put,sl2,sl0,sl1]
  refine zt 12 (.bool false) rfl ?_ ?_
  ·(intro W hSw; obtain ⟨⟨c0,c1⟩,-⟩ := hSw; go_simp; try (with_reducible rfl))
  try simp only [Act.put,sl2,sl0,sl1]
  refine zt 13 (.bool false) rfl ?_ ?_
  ·(intro W hSw; obtain ⟨⟨c0,c1⟩,-⟩ := hSw; go_simp; try (with_reducible rfl))
  try simp only [Act.put,sl2,sl0,sl1]
  refine wpAnyH_done (by kernel_rfl) ?_ _
  (go_wp2_with fail)
  go_meet
  exact ⟨rfl,hS⟩
 case rest =>
  clear hS c0 c1 hb
  obtain ⟨rfl,hS⟩ := hcut
  obtain ⟨c0,c1⟩ := id hS.1
  rcases t1 with t1 | ⟨t1,t2⟩
  all_goals
   go_wp2_with (first
    | (go_at_call 157; ((with_reducible refine (KA _).out.mono ?_); rintro e w1 ⟨rfl,hb⟩; replace hS := hS.call hb; have c0 := hS.1.1; have c1 := hS.1.2))
    | (go_at_call 157; ((with_reducible refine (KB _).out.mono ?_); rintro e w1 ⟨rfl,hb⟩; replace hS := hS.call hb; have c0 := hS.1.1; have c1 := hS.1.2))
    | (go_at_call 158; ((with_reducible refine (canonical_32 _).mono ?_); rintro e w1 ⟨rfl,hb⟩; replace hS := hS.call hb))
    | (go_at_call 174; ((with_reducible refine (infinity_32 _).mono ?_); rintro e w1 ⟨rfl,hb⟩; replace hS := hS.call hb)))
   all_goals
    go_ret
    exact ⟨rfl,hS.2⟩
set_option maxRecDepth 20000 in
set_option maxHeartbeats 6400000 in
theorem quo_32_zero (a b ka kb : Nat) (ha : a < 4294967296) (hb : b < 4294967296) (h1 : kindOf 2139095040 (a % 2147483648) = ka) (h2 : kindOf 2139095040 (b % 2147483648) = kb) (hk : ka ≠ kb ∧ ka ≠ 3 ∧ kb ≠ 1 ∧ (ka = 1 ∨ (ka ≠ 1 ∧ kb = 3)) ∧ (ka = 1 ∨ ka = 2 ∨ ka = 3) ∧ (kb = 1 ∨ kb = 2 ∨ kb = 3)) (w : World) :
  Calls Tryz.prog 164 #[.agg #[.int .i64 8,.int .i64 23],.int .u64 a,.int .u64 b] w fun r w' => r = .returned (.int .u64 ((((Ieee.single).div a b).getD 2143289344 : Nat) : Int)) ∧ Below w.heap.size w w' := by
 have KA := fun w => hid (kind_32 a ha w)
 have KB := fun w => hid (kind_32 b hb w)
 rw [h1] at KA
 rw [h2] at KB
 have hx := xor_top (k := 31) (a := a) (b := b) (by omega) (by omega)
 rw [show (2 : Nat) ^ 31 = 2147483648 by decide] at hx
 obtain ⟨xr,hxr⟩ : ∃ xr : Nat,xr = a ^^^ b := ⟨_,rfl⟩
 have hxb : bits .xor .u64 (a : Int) (b : Int) = (xr : Int) := by rw [hxr]; exact bits_xor_u64_nat a b (by omega) (by omega)
 rw [← hxr] at hx
 have SG := fun w => hid (sign_32 xr hx.2 w)
 obtain ⟨sg,hsg⟩ : ∃ sg : Nat,sg = if 2147483648 ≤ xr then 2147483648 else 0 := ⟨_,rfl⟩
 rw [← hsg] at SG
 have hsb : (decide (2147483648 ≤ a) ^^ decide (2147483648 ≤ b)) = decide (2147483648 ≤ xr) := hx.1.symm
 have hR : ((Ieee.single).div a b).getD 2143289344 = sg := by
  rw [div_zero fmt_single (by omega) (by omega) (by rw [h1,h2]; omega),hsb,hsg]; unfold Ieee.Format.word; by_cases h : 2147483648 ≤ xr <;> simp [h,show (Ieee.single).signWeight = 2147483648 from rfl]
 rw [hR]
 obtain ⟨RR,hRR⟩ : ∃ RR : Nat,RR = sg := ⟨_,rfl⟩
 skip
 rw [← hRR]
 subst hRR; clear hsg
 have t0 : ((ka : Int) == (kb : Int)) = false := beq_eq_false_iff_ne.2 (by omega)
 have t3 : ((ka : Int) == 3) = false := beq_eq_false_iff_ne.2 (by omega)
 have t4 : ((kb : Int) == 1) = false := beq_eq_false_iff_ne.2 (by omega)
 have t1 : (((ka : Int) == 1) = true) ∨ (((ka : Int) == 1) = false ∧ ((kb : Int) == 3) = true) := by
  rcases hk.2.2.2.1 with h | ⟨h,h'⟩
  ·exact .inl (by rw [h]; rfl)
  ·exact .inr ⟨beq_eq_false_iff_ne.2 (by omega),by rw [h']; rfl⟩
 clear hk
 have hS := Sx.new 8 23 w
 clear hR hsb hx hxr h1 h2 ha hb
 obtain ⟨c0,c1⟩ := id hS.1
 go_enter Tryz.func164,Tryz.ntmps164
 go_upto_region 2 with (first
  | (go_at_call 135; ((with_reducible refine (SG _).out.mono ?_); rintro e w1 ⟨rfl,hb⟩; replace hS := hS.call hb; clear c0 c1; obtain ⟨c0,c1⟩ := id hS.1)))
 go_cut [18] (fun s18 wx => s18 = .bool false ∧ Sx 8 23 w wx)
 case first =>
  replace hS := hS.drew
  refine wp_region_held_drew (S := Sx 8 23 w) (by kernel_rfl) hS (fun _ => ?_)
  clear c0 c1 hb
  generalize w1.drew = W at *
  refine zt 0 (.agg #[.int .i64 8,.int .i64 23]) rfl ?_ ?_
  ·(intro W hSw; obtain ⟨⟨c0,c1⟩,-⟩ := hSw; go_simp; try (with_reducible rfl))
  try simp only [Act.put,sl2,sl0,sl1]
  refine zt 1 (.int .u64 a) rfl ?_ ?_
  ·(intro W hSw; obtain ⟨⟨c0,c1⟩,-⟩ := hSw; go_simp; try (with_reducible rfl))
  try simp only [Act.put,sl2,sl0,sl1]
  refine zt 3 (.agg #[.int .i64 8,.int .i64 23]) rfl ?_ ?_
  ·(intro W hSw; obtain ⟨⟨c0,c1⟩,-⟩ := hSw; go_simp; try (with_reducible rfl))
  try simp only [Act.put,sl2,sl0,sl1]
  refine zt 4 (.int .u64 b) rfl ?_ ?_
  ·(intro W hSw; obtain ⟨⟨c0,c1⟩,-⟩ := hSw; go_simp; try (with_reducible rfl))
  try simp only [Act.put,sl2,sl0,sl1]
  refine zr 2 rfl (fun K hK => ?_)
  go_simp
  go_at_call 157
  (with_reducible refine (KA _).out.mono ?_)
  rintro e W1 ⟨rfl,hb⟩
  replace hS := hS.call hb
  clear hb
  refine hK.out _ _ hS (fun _ => ?_)
  clear hK K
  try simp only [Act.put,sl2,sl0,sl1]
  refine zr 5 rfl (fun K hK => ?_)
  go_simp
  go_at_call 157
  (with_reducible refine (KB _).out.mono ?_)
  rintro e W2 ⟨rfl,hb⟩
  replace hS := hS.call hb
  clear hb
  refine hK.out _ _ hS (fun _ => ?_)
  clear hK K
  try simp only [Act.put,sl2,sl0,sl1]
  refine zt 6 (.bool false) rfl ?_ ?_
  ·(intro W hSw; obtain ⟨⟨c0,c1⟩,-⟩ := hSw; go_simp; try (with_reducible rfl))
  try simp only [Act.put,sl2,sl0,sl1]
  refine zt 7 (.bool false) rfl ?_ ?_
  ·(intro W hSw; obtain ⟨⟨c0,c1⟩,-⟩ := hSw; go_simp; try (with_reducible rfl))
  try simp only [Act.put,sl2,sl0,sl1]
  refine zu 8 rfl ?_
  try simp only [Act.put,sl2,sl0,sl1]
  refine zu 9 rfl ?_
  try simp only [Act.put,sl2,sl0,sl1]
  refine zu 10 rfl ?_
  try simp only [Act.put,sl2,sl0,sl1]
  refine zu 11 rfl ?_
  try simp only [Act.put,sl2,sl0,sl1]
  refine zt 12 (.bool false) rfl ?_ ?_
  ·(intro W hSw; obtain ⟨⟨c0,c1⟩,-⟩ := hSw; go_simp; try (with_reducible rfl))
  try simp only [Act.put,sl2,sl0,sl1]
  refine zt 13 (.bool false) rfl ?_ ?_
  ·(intro W hSw; obtain ⟨⟨c0,c1⟩,-⟩ := hSw; go_simp; try (with_reducible rfl))
  try simp only [Act.put,sl2,sl0,sl1]
  refine wpAnyH_done (by kernel_rfl) ?_ _
  (go_wp2_with fail)
  go_meet
  exact ⟨rfl,hS⟩
 case rest =>
  clear hS c0 c1 hb
  obtain ⟨rfl,hS⟩ := hcut
  obtain ⟨c0,c1⟩ := id hS.1
  rcases t1 with t1 | ⟨t1,t2⟩
  all_goals
   go_wp2_with (first
    | (go_at_call 157; ((with_reducible refine (KA _).out.mono ?_); rintro e w1 ⟨rfl,hb⟩; replace hS := hS.call hb; have c0 := hS.1.1; have c1 := hS.1.2))
    | (go_at_call 157; ((with_reducible refine (KB _).out.mono ?_); rintro e w1 ⟨rfl,hb⟩; replace hS := hS.call hb; have c0 := hS.1.1; have c1 := hS.1.2))
    | (go_at_call 158; ((with_reducible refine (canonical_32 _).mono ?_); rintro e w1 ⟨rfl,hb⟩; replace hS := hS.call hb))
    | (go_at_call 174; ((with_reducible refine (infinity_32 _).mono ?_); rintro e w1 ⟨rfl,hb⟩; replace hS := hS.call hb)))
   all_goals
    go_ret
    exact ⟨rfl,hS.2⟩
end Go.Proofs.YtbbmbhcbncenaaaGreatDoor.Fl
