/-
  FMath, FBel, FSmall, FReg: merged, what the laws do not reach left out (each text says what it holds where it lies in wip). No condition.
-/
import Ieee.Arith
import Derived.Test.YtlhakbkdlgejpaaGreatDoorProg
import Derived.WalkKit
import Derived.WalkSpells
import Derived.WalkLawsBesides
import Derived.WalkSmall
import Derived.Below
import Derived.Laws.Bits64b
import Derived.Deep.RegionHeld3
import Derived.Deep.QuietTactic
import Derived.BigQuiet
import Derived.Test.YtlhakbkdlgejpaaGreatDoorX01
set_option linter.unusedSimpArgs false
set_option linter.unusedVariables false
set_option maxRecDepth 100000
namespace Go.Proofs.YtlhakbkdlgejpaaGreatDoor.Fl
open Ieee
def rne (n d : Nat) : Nat :=
  n / 2 ^ d + (if 2 ^ d < 2 * (n % 2 ^ d) ∨ (2 ^ d = 2 * (n % 2 ^ d) ∧ n / 2 ^ d % 2 = 1) then 1 else 0)
theorem log2_two_pow_mul {m : Nat} (hm : m ≠ 0) (k : Nat) : (m * 2 ^ k).log2 = m.log2 + k := by
  have h2 : 0 < 2 ^ k := Nat.two_pow_pos k
  have hne : m * 2 ^ k ≠ 0 := Nat.mul_ne_zero hm (by omega)
  rw [Nat.log2_eq_iff hne]
  have h1 := Nat.log2_self_le hm
  have h3 := @Nat.lt_log2_self m
  constructor
  · rw [Nat.pow_add]; exact Nat.mul_le_mul_right _ h1
  · rw [show m.log2 + k + 1 = (m.log2 + 1) + k by omega, Nat.pow_add 2 (m.log2 + 1) k]
    exact Nat.mul_lt_mul_of_pos_right h3 h2
theorem rne_zero (n : Nat) : rne n 0 = n := by
  unfold rne; simp [Nat.mod_one]
theorem rne_big {n d : Nat} (h : 2 * n < 2 ^ d) : rne n d = 0 := by
  unfold rne
  have h1 : n < 2 ^ d := by omega
  rw [Nat.div_eq_of_lt h1, Nat.mod_eq_of_lt h1]
  simp
  omega
theorem cut_rne (neg : Bool) (n d : Nat) : Toward.even.cut neg n d = rne n d := by
  have key : ∀ D : Nat, (n / 2 ^ D + (decide (2 ^ D < 2 * (n % 2 ^ D)) || (2 ^ D == 2 * (n % 2 ^ D) && n / 2 ^ D % 2 == 1)).toNat) = rne n D := by
    intro D
    unfold rne
    congr 1
    by_cases h1 : 2 ^ D < 2 * (n % 2 ^ D)
    · simp [h1]
    · by_cases h2 : 2 ^ D = 2 * (n % 2 ^ D)
      · by_cases h3 : n / 2 ^ D % 2 = 1
        · simp [h1, h2.symm, h3]
        · have : (n / 2 ^ D % 2 == 1) = false := by simpa using h3
          simp [h1, h2.symm, h3]
      · have : (2 ^ D == 2 * (n % 2 ^ D)) = false := by simpa using h2
        simp [h1, h2, this]
  unfold Toward.cut
  simp only [Nat.one_shiftLeft]
  by_cases h : d ≤ n.log2 + 2
  · rw [Nat.min_eq_left h]; exact key d
  · rw [Nat.min_eq_right (by omega), key]
    have hn := @Nat.lt_log2_self n
    have e : (2 : Nat) ^ (n.log2 + 2) = 2 * 2 ^ (n.log2 + 1) := by rw [show n.log2 + 2 = (n.log2 + 1) + 1 by omega, Nat.pow_succ]; omega
    have hle : (2 : Nat) ^ (n.log2 + 2) ≤ 2 ^ d := Nat.pow_le_pow_right (by omega) (by omega)
    rw [rne_big (by omega), rne_big (by omega)]
theorem rne_scale (n d k : Nat) : rne (n * 2 ^ k) (d + k) = rne n d := by
  have h2 : 0 < 2 ^ k := Nat.two_pow_pos k
  unfold rne
  rw [Nat.pow_add, Nat.mul_div_mul_right _ _ h2, Nat.mul_mod_mul_right]
  congr 1
  have e1 : 2 ^ d * 2 ^ k < 2 * (n % 2 ^ d * 2 ^ k) ↔ 2 ^ d < 2 * (n % 2 ^ d) := by
    rw [← Nat.mul_assoc]; exact Nat.mul_lt_mul_right h2
  have e2 : 2 ^ d * 2 ^ k = 2 * (n % 2 ^ d * 2 ^ k) ↔ 2 ^ d = 2 * (n % 2 ^ d) := by
    rw [← Nat.mul_assoc]; exact ⟨fun h => Nat.eq_of_mul_eq_mul_right h2 h, fun h => congrArg (· * 2 ^ k) h⟩
  simp only [e1, e2]
def rneI (n : Nat) (d : Int) : Nat := if 0 ≤ d then rne n d.toNat else n * 2 ^ (-d).toNat
theorem rneI_scale (n : Nat) (d : Int) (k : Nat) : rneI (n * 2 ^ k) (d + k) = rneI n d := by
  unfold rneI
  by_cases h : 0 ≤ d
  · rw [if_pos h, if_pos (by omega), show (d + k).toNat = d.toNat + k by omega, rne_scale]
  · rw [if_neg h]
    by_cases h' : 0 ≤ d + k
    · rw [if_pos h']
      obtain ⟨j, hj⟩ : ∃ j : Nat, j = (d + k).toNat := ⟨_, rfl⟩
      have e : k = (-d).toNat + j := by omega
      rw [← hj]
      have e3 : n * 2 ^ k = n * 2 ^ (-d).toNat * 2 ^ j := by rw [Nat.mul_assoc, ← Nat.pow_add, ← e]
      have := rne_scale (n * 2 ^ (-d).toNat) 0 j
      rw [Nat.zero_add, rne_zero] at this
      rw [e3, this]
    · rw [if_neg h']
      rw [Nat.mul_assoc, ← Nat.pow_add]
      congr 2
      omega
def lastP (f : Format) (m : Nat) (e : Int) : Int := max (e + m.log2 - f.fractionBits) f.leastPlace
def rungOf (f : Format) (m : Nat) (e : Int) : Nat :=
  if m = 0 then 0 else min ((lastP f m e - f.leastPlace).toNat * 2 ^ f.fractionBits + rneI m (lastP f m e - e)) f.infRung
theorem nearest_eq (f : Format) (neg : Bool) (m : Nat) (e : Int) : f.nearest neg m e = f.word neg (rungOf f m e) := by
  unfold Format.nearest rungOf
  by_cases hm : m = 0
  · simp [hm]
  · simp only [if_neg hm]
    rw [show max (e + ↑m.log2 - ↑f.fractionBits) f.leastPlace = lastP f m e from rfl]
    congr 2
    rw [cut_rne]
    show _ = _ + rneI m (lastP f m e - e)
    congr 1
    unfold rneI
    rw [Nat.shiftLeft_eq]
    by_cases h : 0 ≤ lastP f m e - e
    · rw [if_pos h, show (e - lastP f m e).toNat = 0 by omega]; simp
    · rw [if_neg h, show (lastP f m e - e).toNat = 0 by omega, rne_zero, show (-(lastP f m e - e)).toNat = (e - lastP f m e).toNat by omega]
theorem lastP_scale (f : Format) {m : Nat} (hm : m ≠ 0) (e : Int) (k : Nat) : lastP f (m * 2 ^ k) (e - k) = lastP f m e := by
  unfold lastP; rw [log2_two_pow_mul hm]; congr 2; omega
theorem rungOf_scale (f : Format) (m : Nat) (e : Int) (k : Nat) : rungOf f (m * 2 ^ k) (e - k) = rungOf f m e := by
  by_cases hm : m = 0
  · simp [rungOf, hm]
  · have h2 : 0 < 2 ^ k := Nat.two_pow_pos k
    have hne : m * 2 ^ k ≠ 0 := Nat.mul_ne_zero hm (by omega)
    unfold rungOf
    rw [if_neg hm, if_neg hne, lastP_scale f hm]
    rw [show lastP f m e - (e - k) = lastP f m e - e + k by omega, rneI_scale]
def jam (M d : Nat) : Nat := 2 * (M / 2 ^ d) + (if M % 2 ^ d = 0 then 0 else 1)
theorem jam_log2 {M d : Nat} (h : M / 2 ^ d ≠ 0) : (jam M d).log2 + d = M.log2 + 1 := by
  have hq : (jam M d).log2 = (M / 2 ^ d).log2 + 1 := by
    have hne : jam M d ≠ 0 := by unfold jam; omega
    rw [Nat.log2_eq_iff hne]
    have h1 := Nat.log2_self_le h
    have h2 := @Nat.lt_log2_self (M / 2 ^ d)
    have e1 : (2 : Nat) ^ ((M / 2 ^ d).log2 + 1) = 2 * 2 ^ (M / 2 ^ d).log2 := by rw [Nat.pow_succ]; omega
    have e2 : (2 : Nat) ^ ((M / 2 ^ d).log2 + 1 + 1) = 2 * 2 ^ ((M / 2 ^ d).log2 + 1) := by rw [Nat.pow_succ 2 ((M / 2 ^ d).log2 + 1)]; omega
    unfold jam
    constructor
    · rw [e1]; omega
    · rw [e2]; split <;> omega
  have hM : M.log2 = (M / 2 ^ d).log2 + d := by
    have hM0 : M ≠ 0 := by intro h0; rw [h0] at h; simp at h
    rw [Nat.log2_eq_iff hM0]
    have h1 := Nat.log2_self_le h
    have h2 := @Nat.lt_log2_self (M / 2 ^ d)
    have hp : 0 < 2 ^ d := Nat.two_pow_pos d
    have hdm := Nat.div_add_mod M (2 ^ d)
    have hml := Nat.mod_lt M hp
    constructor
    · rw [Nat.pow_add]
      calc 2 ^ (M / 2 ^ d).log2 * 2 ^ d ≤ M / 2 ^ d * 2 ^ d := Nat.mul_le_mul_right _ h1
        _ ≤ M := Nat.div_mul_le_self _ _
    · rw [show (M / 2 ^ d).log2 + d + 1 = ((M / 2 ^ d).log2 + 1) + d by omega, Nat.pow_add 2 ((M / 2 ^ d).log2 + 1)]
      exact (Nat.div_lt_iff_lt_mul hp).1 h2
  omega
theorem rne_jam (M d D : Nat) (hD : 2 ≤ D) : rne (jam M d) D = rne M (D + d - 1) := by
  obtain ⟨c, rfl⟩ : ∃ c, D = c + 2 := ⟨D - 2, by omega⟩
  rw [show c + 2 + d - 1 = c + 1 + d by omega]
  have hp : 0 < 2 ^ d := Nat.two_pow_pos d
  have hh : 0 < 2 ^ c := Nat.two_pow_pos c
  have hdm := Nat.div_add_mod M (2 ^ d)
  have hml := Nat.mod_lt M hp
  obtain ⟨q, hq⟩ : ∃ q, q = M / 2 ^ d := ⟨_, rfl⟩
  obtain ⟨r, hr⟩ : ∃ r, r = M % 2 ^ d := ⟨_, rfl⟩
  obtain ⟨P, hP⟩ : ∃ P, P = 2 ^ d := ⟨_, rfl⟩
  obtain ⟨h, hh'⟩ : ∃ h, h = 2 ^ c := ⟨_, rfl⟩
  have hqd := Nat.div_add_mod q (2 * h)
  have hql := Nat.mod_lt q (show 0 < 2 * h by omega)
  have e1 : (2 : Nat) ^ (c + 2) = 4 * h := by rw [Nat.pow_add, hh']; omega
  have e2 : (2 : Nat) ^ (c + 1 + d) = P * (2 * h) := by rw [Nat.pow_add, Nat.pow_succ, hh', hP, Nat.mul_comm (2 ^ c) 2, Nat.mul_comm]
  unfold rne jam
  rw [← hq, ← hr, e1, e2]
  -- quotients
  have s2 : (if r = 0 then (0 : Nat) else 1) < 2 := by split <;> omega
  obtain ⟨s, hs⟩ : ∃ s, s = (if r = 0 then (0 : Nat) else 1) := ⟨_, rfl⟩
  rw [← hs] at s2 ⊢
  obtain ⟨Q, hQ⟩ : ∃ Q, Q = q / (2 * h) := ⟨_, rfl⟩
  obtain ⟨q', hq'⟩ : ∃ q', q' = q % (2 * h) := ⟨_, rfl⟩
  rw [← hQ, ← hq'] at hqd
  rw [← hq'] at hql
  have d1 : (2 * q + s) / (4 * h) = Q := by
    rw [show 2 * q + s = (2 * q' + s) + (4 * h) * Q by rw [← hqd, Nat.mul_add]; have : 2 * (2 * h * Q) = 4 * h * Q := by rw [← Nat.mul_assoc, ← Nat.mul_assoc]; 
                                                       omega]
    rw [Nat.add_mul_div_left _ _ (by omega), Nat.div_eq_of_lt (by omega)]; omega
  have m1 : (2 * q + s) % (4 * h) = 2 * q' + s := by
    rw [show 2 * q + s = (2 * q' + s) + (4 * h) * Q by rw [← hqd, Nat.mul_add]; have : 2 * (2 * h * Q) = 4 * h * Q := by rw [← Nat.mul_assoc, ← Nat.mul_assoc]; 
                                                       omega]
    rw [Nat.add_mul_mod_self_left, Nat.mod_eq_of_lt (by omega)]
  have d2 : M / (P * (2 * h)) = Q := by rw [hP, ← Nat.div_div_eq_div_mul, ← hq, hQ]
  have m2 : M % (P * (2 * h)) = r + P * q' := by rw [hP, Nat.mod_mul, ← hq, ← hr, ← hq']
  rw [d1, m1, d2, m2]
  rw [← hr, ← hP] at hml
  rw [← hP] at hp
  congr 1
  have c1 : 4 * h < 2 * (2 * q' + s) ↔ P * (2 * h) < 2 * (r + P * q') := by
    rw [show P * (2 * h) = 2 * (P * h) by rw [← Nat.mul_assoc, Nat.mul_comm P 2, Nat.mul_assoc]]
    rcases Nat.lt_trichotomy q' h with hl | hl | hl
    · have : P * (q' + 1) ≤ P * h := Nat.mul_le_mul_left _ hl
      rw [Nat.mul_add] at this
      constructor <;> intro _ <;> omega
    · subst hl
      by_cases h0 : r = 0
      · rw [if_pos h0] at hs; constructor <;> intro _ <;> omega
      · rw [if_neg h0] at hs; constructor <;> intro _ <;> omega
    · have : P * (h + 1) ≤ P * q' := Nat.mul_le_mul_left _ hl
      rw [Nat.mul_add] at this
      constructor <;> intro _ <;> omega
  have c2 : 4 * h = 2 * (2 * q' + s) ↔ P * (2 * h) = 2 * (r + P * q') := by
    rw [show P * (2 * h) = 2 * (P * h) by rw [← Nat.mul_assoc, Nat.mul_comm P 2, Nat.mul_assoc]]
    rcases Nat.lt_trichotomy q' h with hl | hl | hl
    · have : P * (q' + 1) ≤ P * h := Nat.mul_le_mul_left _ hl
      rw [Nat.mul_add] at this
      constructor <;> intro _ <;> omega
    · subst hl
      by_cases h0 : r = 0
      · rw [if_pos h0] at hs; constructor <;> intro _ <;> omega
      · rw [if_neg h0] at hs; constructor <;> intro _ <;> omega
    · have : P * (h + 1) ≤ P * q' := Nat.mul_le_mul_left _ hl
      rw [Nat.mul_add] at this
      constructor <;> intro _ <;> omega
  simp only [c1, c2]
theorem rungOf_jam (f : Format) (M d : Nat) (e : Int) (h : 2 ^ (f.fractionBits + 1) ≤ M / 2 ^ d) : rungOf f (jam M d) (e + d - 1) = rungOf f M e := by
  have hp : 0 < 2 ^ (f.fractionBits + 1) := Nat.two_pow_pos _
  have hq : M / 2 ^ d ≠ 0 := by omega
  have hM : M ≠ 0 := by intro h0; rw [h0] at hq; simp at hq
  have hj : jam M d ≠ 0 := by unfold jam; omega
  have hl := jam_log2 hq
  have hL : lastP f (jam M d) (e + d - 1) = lastP f M e := by unfold lastP; congr 2; omega
  have hlog : f.fractionBits + 2 ≤ (jam M d).log2 := by
    rw [Nat.le_log2 hj]
    unfold jam
    rw [Nat.pow_succ]; omega
  unfold rungOf
  rw [if_neg hM, if_neg hj, hL]
  congr 2
  unfold rneI
  have hge : e + d - 1 + (jam M d).log2 - f.fractionBits ≤ lastP f (jam M d) (e + d - 1) := Int.le_max_left _ _
  rw [hL] at hge
  rw [if_pos (by omega), if_pos (by omega), rne_jam _ _ _ (by omega)]
  congr 1
  omega
def rungR (f : Format) (m : Nat) (e : Int) (more : Bool) : Nat := rungOf f (2 * m + more.toNat) (e - 1)
theorem rungR_false (f : Format) (m : Nat) (e : Int) : rungR f m e false = rungOf f m e := by
  have := rungOf_scale f m e 1
  unfold rungR
  rw [← this]
  congr 1
  simp; omega
theorem rungR_jam (f : Format) (M d : Nat) (e : Int) (h : M % 2 ^ d ≠ 0 → 2 ^ (f.fractionBits + 1) ≤ M / 2 ^ d) :
    rungR f (M / 2 ^ d) (e + d) (decide (M % 2 ^ d ≠ 0)) = rungOf f M e := by
  by_cases h0 : M % 2 ^ d = 0
  · simp only [h0, ne_eq, not_true_eq_false, decide_false, rungR_false]
    have := rungOf_scale f (M / 2 ^ d) (e + d) d
    rw [Nat.div_mul_cancel (Nat.dvd_of_mod_eq_zero h0), show e + ↑d - ↑d = e by omega] at this
    exact this.symm
  · rw [← rungOf_jam f M d e (h h0)]
    unfold rungR jam
    simp [h0]
theorem rungR_scale (f : Format) (m : Nat) (e : Int) (more : Bool) (k : Nat) (h : more = true → 2 ^ (f.fractionBits + 1) ≤ m) :
    rungR f (m * 2 ^ k) (e - k) more = rungR f m e more := by
  cases more with
  | false => rw [rungR_false, rungR_false, rungOf_scale]
  | true =>
    have hk : 0 < 2 ^ k := Nat.two_pow_pos k
    have hk1 : 1 < 2 ^ (k + 1) := by rw [Nat.pow_succ]; omega
    have hdiv : (2 * (m * 2 ^ k) + 1) / 2 ^ (k + 1) = m := by
      rw [show 2 * (m * 2 ^ k) + 1 = 1 + 2 ^ (k + 1) * m by rw [Nat.pow_succ, Nat.mul_comm m, Nat.mul_comm (2 ^ k) 2, Nat.mul_assoc]; omega]
      rw [Nat.add_mul_div_left _ _ (by omega), Nat.div_eq_of_lt hk1]; omega
    have hmod : (2 * (m * 2 ^ k) + 1) % 2 ^ (k + 1) = 1 := by
      rw [show 2 * (m * 2 ^ k) + 1 = 1 + 2 ^ (k + 1) * m by rw [Nat.pow_succ, Nat.mul_comm m, Nat.mul_comm (2 ^ k) 2, Nat.mul_assoc]; omega]
      rw [Nat.add_mul_mod_self_left, Nat.mod_eq_of_lt hk1]
    have := rungOf_jam f (2 * (m * 2 ^ k) + 1) (k + 1) (e - k - 1) (by rw [hdiv]; exact h rfl)
    unfold rungR
    show rungOf f (2 * (m * 2 ^ k) + 1) (e - k - 1) = _
    rw [← this]
    unfold jam
    rw [hdiv, hmod]
    simp
    congr 1
    omega
end Go.Proofs.YtlhakbkdlgejpaaGreatDoor.Fl
namespace Go.Proofs.YtlhakbkdlgejpaaGreatDoor.Fl
open Go.RowKit
theorem hid {p:Prop} (h:p):Hid p:=h
theorem bnext {w w1 w2:World} (h:Below w.heap.size w w1) (k:Below w1.heap.size w1 w2):Below w.heap.size w w2:=h.trans (k.mono h.size)
theorem bkeep {w1 w2:World} {a:Addr} {v:Value} (h:w1.cell? a=some v) (hb:Below w1.heap.size w1 w2):w2.cell? a=some v:=by
 rw [hb.cell (World.block_lt_of_cell? _ _ h)];exact h
theorem word_and {k a:Nat} (ha:a < 2 * 2 ^ k):a &&& 2 ^ k=if 2 ^ k≤a then 2 ^ k else 0:=by
 have hp:0 < 2 ^ k:=Nat.two_pow_pos k
 have h1:a.testBit k=decide (2 ^ k≤a):=by
  rw [Nat.testBit_eq_decide_div_mod_eq]
  by_cases hc:2 ^ k≤a
  ·have:a / 2 ^ k=1:=by rw [Nat.div_eq_iff hp];omega
   simp [this,hc]
  ·have:a / 2 ^ k=0:=Nat.div_eq_of_lt (by omega)
   simp [this,hc]
 apply Nat.eq_of_testBit_eq
 intro j
 rw [Nat.testBit_and,Nat.testBit_two_pow]
 by_cases h:k=j
 ·subst h
  rw [h1]
  by_cases hc:2 ^ k≤a <;> simp [hc,Nat.testBit_two_pow]
 ·by_cases hc:2 ^ k≤a <;> simp [hc,h,Nat.testBit_two_pow]
theorem word_xor {k a:Nat} (ha:a < 2 * 2 ^ k):a ^^^ 2 ^ k=if 2 ^ k≤a then a - 2 ^ k else a + 2 ^ k:=by
 have hp:0 < 2 ^ k:=Nat.two_pow_pos k
 by_cases hc:2 ^ k≤a
 ·rw [if_pos hc]
  obtain ⟨r,rfl⟩:∃ r,a=2 ^ k + r:=⟨a - 2 ^ k,by omega⟩
  have hr:r < 2 ^ k:=by omega
  have e:2 ^ k + r=2 ^ k ^^^ r:=by
   have:=Nat.two_pow_add_eq_or_of_lt hr 1
   rw [Nat.mul_one] at this
   rw [this]
   apply Nat.eq_of_testBit_eq
   intro j
   rw [Nat.testBit_or,Nat.testBit_xor,Nat.testBit_two_pow]
   by_cases h:k=j
   ·subst h;simp [Nat.testBit_lt_two_pow hr]
   ·simp [h]
  rw [show 2 ^ k + r - 2 ^ k=r by omega]
  rw [e,Nat.xor_comm (2 ^ k) r,Nat.xor_assoc,Nat.xor_self,Nat.xor_zero]
 ·rw [if_neg hc]
  have hr:a < 2 ^ k:=by omega
  have:=Nat.two_pow_add_eq_or_of_lt hr 1
  rw [Nat.mul_one] at this
  rw [Nat.add_comm,this]
  apply Nat.eq_of_testBit_eq
  intro j
  rw [Nat.testBit_or,Nat.testBit_xor,Nat.testBit_two_pow]
  by_cases h:k=j
  ·subst h;simp [Nat.testBit_lt_two_pow hr]
  ·simp [h]
theorem bits_andNot_top (k a:Nat) (hk:k < 64) (ha:a < 2 * 2 ^ k):bits .andNot .u64 (a:Int) ((2 ^ k:Nat):Int)=((a % 2 ^ k:Nat):Int):=by
 have hk64:(2:Nat) ^ k < 2 ^ 64:=Nat.pow_lt_pow_right (by decide) hk
 have hk65:(2:Nat) * 2 ^ k≤2 ^ 64:=by
  rw [Nat.mul_comm,← Nat.pow_succ];exact Nat.pow_le_pow_right (by decide) (by omega)
 have ha64:a < 2 ^ 64:=by omega
 have h1:(BitVec.ofInt 64 (a:Int))=BitVec.ofNat 64 a:=by rw [BitVec.ofInt_natCast]
 have h2:(BitVec.ofInt 64 ((2 ^ k:Nat):Int))=BitVec.ofNat 64 (2 ^ k):=by rw [BitVec.ofInt_natCast]
 show IntKind.u64.wrap ((BitVec.ofInt 64 (a:Int) &&& ~~~ BitVec.ofInt 64 ((2 ^ k:Nat):Int)).toNat:Int)=_
 rw [h1,h2,IntKind.wrap_u64]
 have hp:0 < 2 ^ k:=Nat.two_pow_pos k
 have key:(BitVec.ofNat 64 a &&& ~~~ BitVec.ofNat 64 (2 ^ k)).toNat=a % 2 ^ k:=by
  rw [BitVec.toNat_and,BitVec.toNat_not,BitVec.toNat_ofNat,BitVec.toNat_ofNat,Nat.mod_eq_of_lt ha64,Nat.mod_eq_of_lt hk64]
  apply Nat.eq_of_testBit_eq
  intro j
  rw [show (2:Nat) ^ 64 - 1 - 2 ^ k=2 ^ 64 - (2 ^ k + 1) by omega,Nat.testBit_and,Nat.testBit_two_pow_sub_succ hk64,Nat.testBit_mod_two_pow,Nat.testBit_two_pow]
  rcases Nat.lt_trichotomy j k with h | h | h
  ·have:¬ k=j:=by omega
   have h64:j < 64:=by omega
   simp [h,this,h64]
  ·subst h;simp
  ·have hz:a.testBit j=false:=Nat.testBit_lt_two_pow (Nat.lt_of_lt_of_le ha (by
    rw [Nat.mul_comm,← Nat.pow_succ];exact Nat.pow_le_pow_right (by decide) (by omega)))
   simp [hz]
 rw [key]
 have:a % 2 ^ k < 2 ^ k:=Nat.mod_lt _ hp
 have:(2:Nat) ^ 64=18446744073709551616:=by decide
 omega
end Go.Proofs.YtlhakbkdlgejpaaGreatDoor.Fl
namespace Go.Proofs.YtlhakbkdlgejpaaGreatDoor.Fl
open Go.RowKit
def kindOf (INF s:Nat):Nat:=if s=0 then 1 else if s < INF then 2 else if s=INF then 3 else 4
theorem formatOf_32 (w:World):Calls Tryz.prog 179 #[.int .i64 32] w fun e w' => e=.returned (.agg #[.int .i64 8,.int .i64 23])∧Below w.heap.size w w':=by
 go_enter Tryz.func179,Tryz.ntmps179
 go_wp2
 exact bodyPost_ret (v:=.agg #[.int .i64 8,.int .i64 23]) (by simp [results,Tryz.results179,go_sem]) rfl ⟨rfl,(Below.refl _ _).alloc (Nat.le_refl _) _⟩
theorem known_32 (w:World):Calls Tryz.prog 180 #[.agg #[.int .i64 8,.int .i64 23]] w fun e w' => e=.returned (.bool true)∧Below w.heap.size w w':=by
 go_enter Tryz.func180,Tryz.ntmps180
 go_wp2
 go_ret
 exact ⟨rfl,(Below.refl _ _).alloc (Nat.le_refl _) _⟩
theorem signBit_32 (w:World):Calls Tryz.prog 240 #[.agg #[.int .i64 8,.int .i64 23]] w fun e w' => e=.returned (.int .u64 2147483648)∧Below w.heap.size w w':=by
 go_enter Tryz.func240,Tryz.ntmps240
 go_wp2
 go_ret
 exact ⟨rfl,(Below.refl _ _).alloc (Nat.le_refl _) _⟩
theorem infinity_32 (w:World):Calls Tryz.prog 268 #[.agg #[.int .i64 8,.int .i64 23]] w fun e w' => e=.returned (.int .u64 2139095040)∧Below w.heap.size w w':=by
 go_enter Tryz.func268,Tryz.ntmps268
 go_wp2
 go_quiet (fail)
 go_wp2
 go_ret
 exact ⟨rfl,below_drewN ((Below.refl _ _).alloc (Nat.le_refl _) _) _⟩
theorem lowest_32 (w:World):Calls Tryz.prog 269 #[.agg #[.int .i64 8,.int .i64 23]] w fun e w' => e=.returned (.int .i64 (-149))∧Below w.heap.size w w':=by
 go_enter Tryz.func269,Tryz.ntmps269
 go_wp2
 go_quiet (fail)
 go_wp2
 go_ret
 exact ⟨rfl,below_drewN ((Below.refl _ _).alloc (Nat.le_refl _) _) _⟩
theorem canonical_32 (w:World):Calls Tryz.prog 242 #[.agg #[.int .i64 8,.int .i64 23]] w fun e w' => e=.returned (.int .u64 2143289344)∧Below w.heap.size w w':=by
 have hw:IntKind.i64.wrap 22=22:=by decide
 go_enter Tryz.func242,Tryz.ntmps242
 go_wp2
 go_region_held3 (fun w' => w'.cell? ⟨w.heap.size,0,none⟩=some (.int .i64 8)∧w'.cell? ⟨w.heap.size,1,none⟩=some (.int .i64 23)∧Below w.heap.size w w')
  (first
   | exact ⟨by simp,by simp,((Below.refl _ _).alloc (Nat.le_refl _) _).drew⟩
   | (go_split_ands;exact ⟨bkeep ‹_› hb,bkeep ‹_› hb,bnext ‹_› hb⟩))
  (first | (go_at_call 268;refine (infinity_32 _).mono ?_;rintro e w' ⟨rfl,hb⟩))
 go_wp2
 go_ret
 exact ⟨rfl,by go_split_ands;assumption⟩
theorem cut_32 (a:Nat) (ha:a < 18446744073709551616) (w:World):Calls Tryz.prog 181 #[.agg #[.int .i64 8,.int .i64 23],.int .u64 a] w fun e w' => e=.returned (.int .u64 ((a % 4294967296:Nat):Int))∧Below w.heap.size w w':=by
 have hand:bits .and .u64 (a:Int) 4294967295=((a % 4294967296:Nat):Int):=by
  have:=bits_and_u64_nat a 4294967295 ha (by decide)
  rw [show (4294967295:Nat)=2 ^ 32 - 1 by decide,Nat.and_two_pow_sub_one_eq_mod] at this
  exact this
 obtain ⟨y,hy⟩:∃ y:Nat,y=a % 4294967296:=⟨_,rfl⟩
 rw [← hy] at hand ⊢
 clear hy
 have hw:IntKind.u64.wrap 4294967296=4294967296:=by decide
 have hw2:IntKind.u64.wrap (4294967295)=4294967295:=by decide
 go_enter Tryz.func181,Tryz.ntmps181
 go_wp2_with (go_at_call 240;refine (signBit_32 _).mono ?_;rintro e w' ⟨rfl,hb⟩)
 go_ret
 exact ⟨rfl,bnext ((Below.refl _ _).alloc (Nat.le_refl _) _) hb⟩
theorem size_32 (a:Nat) (ha:a < 4294967296) (w:World):Calls Tryz.prog 182 #[.agg #[.int .i64 8,.int .i64 23],.int .u64 a] w fun e w' => e=.returned (.int .u64 ((a % 2147483648:Nat):Int))∧Below w.heap.size w w':=by
 have hand:bits .andNot .u64 (a:Int) 2147483648=((a % 2147483648:Nat):Int):=bits_andNot_top 31 a (by decide) (by omega)
 obtain ⟨y,hy⟩:∃ y:Nat,y=a % 2147483648:=⟨_,rfl⟩
 rw [← hy] at hand ⊢
 clear hy
 go_enter Tryz.func182,Tryz.ntmps182
 go_wp2_with (go_at_call 240;refine (signBit_32 _).mono ?_;rintro e w' ⟨rfl,hb⟩)
 go_ret
 exact ⟨rfl,bnext ((Below.refl _ _).alloc (Nat.le_refl _) _) hb⟩
theorem sign_32 (a:Nat) (ha:a < 4294967296) (w:World):Calls Tryz.prog 189 #[.agg #[.int .i64 8,.int .i64 23],.int .u64 a] w fun e w' => e=.returned (.int .u64 ((if 2147483648≤a then 2147483648 else 0:Nat):Int))∧Below w.heap.size w w':=by
 have hand:bits .and .u64 (a:Int) 2147483648=((if 2147483648≤a then 2147483648 else 0:Nat):Int):=by
  have:=bits_and_u64_nat a 2147483648 (by omega) (by decide)
  rw [show (2147483648:Nat)=2 ^ 31 by decide,word_and (by omega)] at this
  exact this
 obtain ⟨y,hy⟩:∃ y:Nat,y=(if 2147483648≤a then 2147483648 else 0):=⟨_,rfl⟩
 rw [← hy] at hand ⊢
 clear hy
 go_enter Tryz.func189,Tryz.ntmps189
 go_wp2_with (go_at_call 240;refine (signBit_32 _).mono ?_;rintro e w' ⟨rfl,hb⟩)
 go_ret
 exact ⟨rfl,bnext ((Below.refl _ _).alloc (Nat.le_refl _) _) hb⟩
theorem opposite_32 (a:Nat) (ha:a < 4294967296) (w:World):Calls Tryz.prog 183 #[.agg #[.int .i64 8,.int .i64 23],.int .u64 a] w fun e w' => e=.returned (.int .u64 ((if 2147483648≤a then a - 2147483648 else a + 2147483648:Nat):Int))∧Below w.heap.size w w':=by
 have hand:bits .xor .u64 (a:Int) 2147483648=((if 2147483648≤a then a - 2147483648 else a + 2147483648:Nat):Int):=by
  have:=bits_xor_u64_nat a 2147483648 (by omega) (by decide)
  rw [show (2147483648:Nat)=2 ^ 31 by decide,word_xor (by omega)] at this
  exact this
 obtain ⟨y,hy⟩:∃ y:Nat,y=(if 2147483648≤a then a - 2147483648 else a + 2147483648):=⟨_,rfl⟩
 rw [← hy] at hand ⊢
 clear hy
 go_enter Tryz.func183,Tryz.ntmps183
 go_wp2_with (go_at_call 240;refine (signBit_32 _).mono ?_;rintro e w' ⟨rfl,hb⟩)
 go_ret
 exact ⟨rfl,bnext ((Below.refl _ _).alloc (Nat.le_refl _) _) hb⟩
theorem kind_32 (a:Nat) (ha:a < 4294967296) (w:World):Calls Tryz.prog 241 #[.agg #[.int .i64 8,.int .i64 23],.int .u64 a] w fun e w' => e=.returned (.int .i64 ((kindOf 2139095040 (a % 2147483648):Nat):Int))∧Below w.heap.size w w':=by
 have HS:=fun w => hid (size_32 a ha w)
 have h0:Below w.heap.size w w:=Below.refl _ _
 obtain ⟨s,hs⟩:∃ s:Nat,s=a % 2147483648:=⟨_,rfl⟩
 rw [← hs] at HS ⊢
 have hs2:s < 2147483648:=by omega
 clear hs
 rcases Nat.eq_zero_or_pos s with h | h
 ·subst h
  have hk:kindOf 2139095040 0=1:=rfl
  rw [hk];clear hk
  go_enter Tryz.func241,Tryz.ntmps241
  go_wp2_with (first
   | (go_at_call 182;refine (HS _).out.mono ?_;rintro e w1 ⟨rfl,hb⟩;have c0:=bkeep (a:=⟨w.heap.size,0,none⟩) (v:=.int .i64 8) (by simp) hb;have c1:=bkeep (a:=⟨w.heap.size,1,none⟩) (v:=.int .i64 23) (by simp) hb))
  go_ret
  exact ⟨rfl,bnext ((Below.refl _ _).alloc (Nat.le_refl _) _) hb⟩
 ·rcases Nat.lt_trichotomy s 2139095040 with h2 | h2 | h2
  ·have hk:kindOf 2139095040 s=2:=by unfold kindOf;rw [if_neg (by omega),if_pos h2]
   rw [hk];clear hk
   have e1:((s:Int) == 0)=false:=by simp;omega
   have e2:decide ((s:Int) < 2139095040)=true:=by simp;omega
   have e2':((s:Int) < 2139095040):=by omega
   clear h h2 hs2
   go_enter Tryz.func241,Tryz.ntmps241
   go_wp2_with (first
    | (go_at_call 182;refine (HS _).out.mono ?_;rintro e w1 ⟨rfl,hb⟩;have c0:=bkeep (a:=⟨w.heap.size,0,none⟩) (v:=.int .i64 8) (by simp) hb;have c1:=bkeep (a:=⟨w.heap.size,1,none⟩) (v:=.int .i64 23) (by simp) hb)
    | (go_at_call 268;refine (infinity_32 _).mono ?_;rintro e w2 ⟨rfl,hb2⟩))
   go_ret
   exact ⟨rfl,bnext (bnext ((Below.refl _ _).alloc (Nat.le_refl _) _) hb) hb2⟩
  ·subst h2
   have hk:kindOf 2139095040 2139095040=3:=rfl
   rw [hk];clear hk
   go_enter Tryz.func241,Tryz.ntmps241
   go_wp2_with (first
    | (go_at_call 182;refine (HS _).out.mono ?_;rintro e w1 ⟨rfl,hb⟩;have c0:=bkeep (a:=⟨w.heap.size,0,none⟩) (v:=.int .i64 8) (by simp) hb;have c1:=bkeep (a:=⟨w.heap.size,1,none⟩) (v:=.int .i64 23) (by simp) hb)
    | (go_at_call 268;refine (infinity_32 _).mono ?_;rintro e w2 ⟨rfl,hb2⟩;have c2:=bkeep (a:=⟨w.heap.size,0,none⟩) (v:=.int .i64 8) (by simp [*]) hb2;have c3:=bkeep (a:=⟨w.heap.size,1,none⟩) (v:=.int .i64 23) (by simp [*]) hb2))
   go_ret
   exact ⟨rfl,bnext (bnext (bnext ((Below.refl _ _).alloc (Nat.le_refl _) _) hb) (by assumption)) hb2⟩
  ·have hk:kindOf 2139095040 s=4:=by unfold kindOf;rw [if_neg (by omega),if_neg (by omega),if_neg (by omega)]
   rw [hk];clear hk
   have e1:((s:Int) == 0)=false:=by simp;omega
   have e2:decide ((s:Int) < 2139095040)=false:=by simp;omega
   have e2':¬ ((s:Int) < 2139095040):=by omega
   have e3:((s:Int) == 2139095040)=false:=by simp;omega
   clear h h2 hs2
   go_enter Tryz.func241,Tryz.ntmps241
   go_wp2_with (first
    | (go_at_call 182;refine (HS _).out.mono ?_;rintro e w1 ⟨rfl,hb⟩;have c0:=bkeep (a:=⟨w.heap.size,0,none⟩) (v:=.int .i64 8) (by simp) hb;have c1:=bkeep (a:=⟨w.heap.size,1,none⟩) (v:=.int .i64 23) (by simp) hb)
    | (go_at_call 268;refine (infinity_32 _).mono ?_;rintro e w2 ⟨rfl,hb2⟩;have c2:=bkeep (a:=⟨w.heap.size,0,none⟩) (v:=.int .i64 8) (by simp [*]) hb2;have c3:=bkeep (a:=⟨w.heap.size,1,none⟩) (v:=.int .i64 23) (by simp [*]) hb2))
   go_ret
   exact ⟨rfl,bnext (bnext (bnext ((Below.refl _ _).alloc (Nat.le_refl _) _) hb) (by assumption)) hb2⟩
theorem formatOf_64 (w:World):Calls Tryz.prog 179 #[.int .i64 64] w fun e w' => e=.returned (.agg #[.int .i64 11,.int .i64 52])∧Below w.heap.size w w':=by
 go_enter Tryz.func179,Tryz.ntmps179
 go_wp2
 exact bodyPost_ret (v:=.agg #[.int .i64 11,.int .i64 52]) (by simp [results,Tryz.results179,go_sem]) rfl ⟨rfl,(Below.refl _ _).alloc (Nat.le_refl _) _⟩
theorem known_64 (w:World):Calls Tryz.prog 180 #[.agg #[.int .i64 11,.int .i64 52]] w fun e w' => e=.returned (.bool true)∧Below w.heap.size w w':=by
 go_enter Tryz.func180,Tryz.ntmps180
 go_wp2
 go_ret
 exact ⟨rfl,(Below.refl _ _).alloc (Nat.le_refl _) _⟩
theorem signBit_64 (w:World):Calls Tryz.prog 240 #[.agg #[.int .i64 11,.int .i64 52]] w fun e w' => e=.returned (.int .u64 9223372036854775808)∧Below w.heap.size w w':=by
 go_enter Tryz.func240,Tryz.ntmps240
 go_wp2
 go_ret
 exact ⟨rfl,(Below.refl _ _).alloc (Nat.le_refl _) _⟩
theorem infinity_64 (w:World):Calls Tryz.prog 268 #[.agg #[.int .i64 11,.int .i64 52]] w fun e w' => e=.returned (.int .u64 9218868437227405312)∧Below w.heap.size w w':=by
 go_enter Tryz.func268,Tryz.ntmps268
 go_wp2
 go_quiet (fail)
 go_wp2
 go_ret
 exact ⟨rfl,below_drewN ((Below.refl _ _).alloc (Nat.le_refl _) _) _⟩
theorem lowest_64 (w:World):Calls Tryz.prog 269 #[.agg #[.int .i64 11,.int .i64 52]] w fun e w' => e=.returned (.int .i64 (-1074))∧Below w.heap.size w w':=by
 go_enter Tryz.func269,Tryz.ntmps269
 go_wp2
 go_quiet (fail)
 go_wp2
 go_ret
 exact ⟨rfl,below_drewN ((Below.refl _ _).alloc (Nat.le_refl _) _) _⟩
theorem canonical_64 (w:World):Calls Tryz.prog 242 #[.agg #[.int .i64 11,.int .i64 52]] w fun e w' => e=.returned (.int .u64 9221120237041090560)∧Below w.heap.size w w':=by
 have hw:IntKind.i64.wrap 51=51:=by decide
 go_enter Tryz.func242,Tryz.ntmps242
 go_wp2
 go_region_held3 (fun w' => w'.cell? ⟨w.heap.size,0,none⟩=some (.int .i64 11)∧w'.cell? ⟨w.heap.size,1,none⟩=some (.int .i64 52)∧Below w.heap.size w w')
  (first
   | exact ⟨by simp,by simp,((Below.refl _ _).alloc (Nat.le_refl _) _).drew⟩
   | (go_split_ands;exact ⟨bkeep ‹_› hb,bkeep ‹_› hb,bnext ‹_› hb⟩))
  (first | (go_at_call 268;refine (infinity_64 _).mono ?_;rintro e w' ⟨rfl,hb⟩))
 go_wp2
 go_ret
 exact ⟨rfl,by go_split_ands;assumption⟩
theorem cut_64 (a:Nat) (ha:a < 18446744073709551616) (w:World):Calls Tryz.prog 181 #[.agg #[.int .i64 11,.int .i64 52],.int .u64 a] w fun e w' => e=.returned (.int .u64 ((a % 18446744073709551616:Nat):Int))∧Below w.heap.size w w':=by
 have hand:bits .and .u64 (a:Int) 18446744073709551615=((a % 18446744073709551616:Nat):Int):=by
  have:=bits_and_u64_nat a 18446744073709551615 ha (by decide)
  rw [show (18446744073709551615:Nat)=2 ^ 64 - 1 by decide,Nat.and_two_pow_sub_one_eq_mod] at this
  exact this
 obtain ⟨y,hy⟩:∃ y:Nat,y=a % 18446744073709551616:=⟨_,rfl⟩
 rw [← hy] at hand ⊢
 clear hy
 have hw:IntKind.u64.wrap 18446744073709551616=0:=by decide
 have hw2:IntKind.u64.wrap (-1)=18446744073709551615:=by decide
 go_enter Tryz.func181,Tryz.ntmps181
 go_wp2_with (go_at_call 240;refine (signBit_64 _).mono ?_;rintro e w' ⟨rfl,hb⟩)
 go_ret
 exact ⟨rfl,bnext ((Below.refl _ _).alloc (Nat.le_refl _) _) hb⟩
theorem size_64 (a:Nat) (ha:a < 18446744073709551616) (w:World):Calls Tryz.prog 182 #[.agg #[.int .i64 11,.int .i64 52],.int .u64 a] w fun e w' => e=.returned (.int .u64 ((a % 9223372036854775808:Nat):Int))∧Below w.heap.size w w':=by
 have hand:bits .andNot .u64 (a:Int) 9223372036854775808=((a % 9223372036854775808:Nat):Int):=bits_andNot_top 63 a (by decide) (by omega)
 obtain ⟨y,hy⟩:∃ y:Nat,y=a % 9223372036854775808:=⟨_,rfl⟩
 rw [← hy] at hand ⊢
 clear hy
 go_enter Tryz.func182,Tryz.ntmps182
 go_wp2_with (go_at_call 240;refine (signBit_64 _).mono ?_;rintro e w' ⟨rfl,hb⟩)
 go_ret
 exact ⟨rfl,bnext ((Below.refl _ _).alloc (Nat.le_refl _) _) hb⟩
theorem sign_64 (a:Nat) (ha:a < 18446744073709551616) (w:World):Calls Tryz.prog 189 #[.agg #[.int .i64 11,.int .i64 52],.int .u64 a] w fun e w' => e=.returned (.int .u64 ((if 9223372036854775808≤a then 9223372036854775808 else 0:Nat):Int))∧Below w.heap.size w w':=by
 have hand:bits .and .u64 (a:Int) 9223372036854775808=((if 9223372036854775808≤a then 9223372036854775808 else 0:Nat):Int):=by
  have:=bits_and_u64_nat a 9223372036854775808 (by omega) (by decide)
  rw [show (9223372036854775808:Nat)=2 ^ 63 by decide,word_and (by omega)] at this
  exact this
 obtain ⟨y,hy⟩:∃ y:Nat,y=(if 9223372036854775808≤a then 9223372036854775808 else 0):=⟨_,rfl⟩
 rw [← hy] at hand ⊢
 clear hy
 go_enter Tryz.func189,Tryz.ntmps189
 go_wp2_with (go_at_call 240;refine (signBit_64 _).mono ?_;rintro e w' ⟨rfl,hb⟩)
 go_ret
 exact ⟨rfl,bnext ((Below.refl _ _).alloc (Nat.le_refl _) _) hb⟩
theorem opposite_64 (a:Nat) (ha:a < 18446744073709551616) (w:World):Calls Tryz.prog 183 #[.agg #[.int .i64 11,.int .i64 52],.int .u64 a] w fun e w' => e=.returned (.int .u64 ((if 9223372036854775808≤a then a - 9223372036854775808 else a + 9223372036854775808:Nat):Int))∧Below w.heap.size w w':=by
 have hand:bits .xor .u64 (a:Int) 9223372036854775808=((if 9223372036854775808≤a then a - 9223372036854775808 else a + 9223372036854775808:Nat):Int):=by
  have:=bits_xor_u64_nat a 9223372036854775808 (by omega) (by decide)
  rw [show (9223372036854775808:Nat)=2 ^ 63 by decide,word_xor (by omega)] at this
  exact this
 obtain ⟨y,hy⟩:∃ y:Nat,y=(if 9223372036854775808≤a then a - 9223372036854775808 else a + 9223372036854775808):=⟨_,rfl⟩
 rw [← hy] at hand ⊢
 clear hy
 go_enter Tryz.func183,Tryz.ntmps183
 go_wp2_with (go_at_call 240;refine (signBit_64 _).mono ?_;rintro e w' ⟨rfl,hb⟩)
 go_ret
 exact ⟨rfl,bnext ((Below.refl _ _).alloc (Nat.le_refl _) _) hb⟩
theorem kind_64 (a:Nat) (ha:a < 18446744073709551616) (w:World):Calls Tryz.prog 241 #[.agg #[.int .i64 11,.int .i64 52],.int .u64 a] w fun e w' => e=.returned (.int .i64 ((kindOf 9218868437227405312 (a % 9223372036854775808):Nat):Int))∧Below w.heap.size w w':=by
 have HS:=fun w => hid (size_64 a ha w)
 have h0:Below w.heap.size w w:=Below.refl _ _
 obtain ⟨s,hs⟩:∃ s:Nat,s=a % 9223372036854775808:=⟨_,rfl⟩
 rw [← hs] at HS ⊢
 have hs2:s < 9223372036854775808:=by omega
 clear hs
 rcases Nat.eq_zero_or_pos s with h | h
 ·subst h
  have hk:kindOf 9218868437227405312 0=1:=rfl
  rw [hk];clear hk
  go_enter Tryz.func241,Tryz.ntmps241
  go_wp2_with (first
   | (go_at_call 182;refine (HS _).out.mono ?_;rintro e w1 ⟨rfl,hb⟩;have c0:=bkeep (a:=⟨w.heap.size,0,none⟩) (v:=.int .i64 11) (by simp) hb;have c1:=bkeep (a:=⟨w.heap.size,1,none⟩) (v:=.int .i64 52) (by simp) hb))
  go_ret
  exact ⟨rfl,bnext ((Below.refl _ _).alloc (Nat.le_refl _) _) hb⟩
 ·rcases Nat.lt_trichotomy s 9218868437227405312 with h2 | h2 | h2
  ·have hk:kindOf 9218868437227405312 s=2:=by unfold kindOf;rw [if_neg (by omega),if_pos h2]
   rw [hk];clear hk
   have e1:((s:Int) == 0)=false:=by simp;omega
   have e2:decide ((s:Int) < 9218868437227405312)=true:=by simp;omega
   have e2':((s:Int) < 9218868437227405312):=by omega
   clear h h2 hs2
   go_enter Tryz.func241,Tryz.ntmps241
   go_wp2_with (first
    | (go_at_call 182;refine (HS _).out.mono ?_;rintro e w1 ⟨rfl,hb⟩;have c0:=bkeep (a:=⟨w.heap.size,0,none⟩) (v:=.int .i64 11) (by simp) hb;have c1:=bkeep (a:=⟨w.heap.size,1,none⟩) (v:=.int .i64 52) (by simp) hb)
    | (go_at_call 268;refine (infinity_64 _).mono ?_;rintro e w2 ⟨rfl,hb2⟩))
   go_ret
   exact ⟨rfl,bnext (bnext ((Below.refl _ _).alloc (Nat.le_refl _) _) hb) hb2⟩
  ·subst h2
   have hk:kindOf 9218868437227405312 9218868437227405312=3:=rfl
   rw [hk];clear hk
   go_enter Tryz.func241,Tryz.ntmps241
   go_wp2_with (first
    | (go_at_call 182;refine (HS _).out.mono ?_;rintro e w1 ⟨rfl,hb⟩;have c0:=bkeep (a:=⟨w.heap.size,0,none⟩) (v:=.int .i64 11) (by simp) hb;have c1:=bkeep (a:=⟨w.heap.size,1,none⟩) (v:=.int .i64 52) (by simp) hb)
    | (go_at_call 268;refine (infinity_64 _).mono ?_;rintro e w2 ⟨rfl,hb2⟩;have c2:=bkeep (a:=⟨w.heap.size,0,none⟩) (v:=.int .i64 11) (by simp [*]) hb2;have c3:=bkeep (a:=⟨w.heap.size,1,none⟩) (v:=.int .i64 52) (by simp [*]) hb2))
   go_ret
   exact ⟨rfl,bnext (bnext (bnext ((Below.refl _ _).alloc (Nat.le_refl _) _) hb) (by assumption)) hb2⟩
  ·have hk:kindOf 9218868437227405312 s=4:=by unfold kindOf;rw [if_neg (by omega),if_neg (by omega),if_neg (by omega)]
   rw [hk];clear hk
   have e1:((s:Int) == 0)=false:=by simp;omega
   have e2:decide ((s:Int) < 9218868437227405312)=false:=by simp;omega
   have e2':¬ ((s:Int) < 9218868437227405312):=by omega
   have e3:((s:Int) == 9218868437227405312)=false:=by simp;omega
   clear h h2 hs2
   go_enter Tryz.func241,Tryz.ntmps241
   go_wp2_with (first
    | (go_at_call 182;refine (HS _).out.mono ?_;rintro e w1 ⟨rfl,hb⟩;have c0:=bkeep (a:=⟨w.heap.size,0,none⟩) (v:=.int .i64 11) (by simp) hb;have c1:=bkeep (a:=⟨w.heap.size,1,none⟩) (v:=.int .i64 52) (by simp) hb)
    | (go_at_call 268;refine (infinity_64 _).mono ?_;rintro e w2 ⟨rfl,hb2⟩;have c2:=bkeep (a:=⟨w.heap.size,0,none⟩) (v:=.int .i64 11) (by simp [*]) hb2;have c3:=bkeep (a:=⟨w.heap.size,1,none⟩) (v:=.int .i64 52) (by simp [*]) hb2))
   go_ret
   exact ⟨rfl,bnext (bnext (bnext ((Below.refl _ _).alloc (Nat.le_refl _) _) hb) (by assumption)) hb2⟩
end Go.Proofs.YtlhakbkdlgejpaaGreatDoor.Fl
namespace Go.Proofs.YtlhakbkdlgejpaaGreatDoor.Fl
open Go.RowKit
theorem sl0 {α:Type} (a b:α) (l:List α):(a :: l).set 0 b=b :: l:=rfl
theorem sl1 {α:Type} (a b:α) (l:List α) (n:Nat):(a :: l).set (n + 1) b=a :: l.set n b:=rfl
theorem sl2 {α:Type} (l:List α) (i:Nat) (a:α):l.toArray.setIfInBounds i a=(l.set i a).toArray:=by simp
theorem balloc {w w1:World} (h:Below w.heap.size w w1) (o:Obj):Below w.heap.size w (w1.alloc o):=h.alloc h.size o
def Fb (E P:Int) (g:Nat) (W:World):Prop:=W.cell? ⟨g,0,none⟩=some (.int .i64 E)∧W.cell? ⟨g,1,none⟩=some (.int .i64 P)
def Nb (g:Nat) (ng:Bool) (m e:Int) (W:World):Prop :=
 (W.cell? ⟨g,0,none⟩=some (.bool ng)∧W.cell? ⟨g,1,none⟩=some (.int .u64 m)∧W.cell? ⟨g,2,none⟩=some (.int .i64 e)) ∧
 (W.frozen? ⟨g,0,none⟩=false∧W.frozen? ⟨g,1,none⟩=false∧W.frozen? ⟨g,2,none⟩=false)
theorem Fb.lt {E P:Int} {g:Nat} {W:World} (h:Fb E P g W):g < W.heap.size:=World.block_lt_of_cell? _ _ h.1
theorem Nb.lt {g:Nat} {ng:Bool} {m e:Int} {W:World} (h:Nb g ng m e W):g < W.heap.size:=World.block_lt_of_cell? _ _ h.1.1
theorem Fb.call {E P:Int} {g:Nat} {W W':World} (h:Fb E P g W) (hb:Below W.heap.size W W'):Fb E P g W':=⟨bkeep h.1 hb,bkeep h.2 hb⟩
theorem Nb.call {g:Nat} {ng:Bool} {m e:Int} {W W':World} (h:Nb g ng m e W) (hb:Below W.heap.size W W'):Nb g ng m e W':=by
 have hl:=h.lt
 refine ⟨⟨bkeep h.1.1 hb,bkeep h.1.2.1 hb,bkeep h.1.2.2 hb⟩,?_,?_,?_⟩
 ·rw [hb.frozen (p:=⟨g,0,none⟩) hl];exact h.2.1
 ·rw [hb.frozen (p:=⟨g,1,none⟩) hl];exact h.2.2.1
 ·rw [hb.frozen (p:=⟨g,2,none⟩) hl];exact h.2.2.2
theorem ball (W:World) (o:Obj):Below W.heap.size W (W.alloc o):=(Below.refl _ _).alloc (Nat.le_refl _) o
theorem Fb.alloc {E P:Int} {g:Nat} {W:World} (h:Fb E P g W) (o:Obj):Fb E P g (W.alloc o):=h.call (ball W o)
theorem Nb.alloc {g:Nat} {ng:Bool} {m e:Int} {W:World} (h:Nb g ng m e W) (o:Obj):Nb g ng m e (W.alloc o):=h.call (ball W o)
theorem Fb.drew {E P:Int} {g:Nat} {W:World} (h:Fb E P g W):Fb E P g W.drew:=h
theorem Nb.drew {g:Nat} {ng:Bool} {m e:Int} {W:World} (h:Nb g ng m e W):Nb g ng m e W.drew:=h
theorem Fb.new (E P:Int) (W:World):Fb E P W.heap.size (W.alloc (.cells #[.int .i64 E,.int .i64 P] 141)):=⟨by simp,by simp⟩
theorem Nb.new (ng:Bool) (m e:Int) (W:World):Nb W.heap.size ng m e (W.alloc (.cells #[.bool ng,.int .u64 m,.int .i64 e] 193)) :=
 ⟨⟨by simp,by simp,by simp⟩,by simp,by simp,by simp⟩
theorem Fb.set {E P:Int} {g c o:Nat} {u:Value} {W:World} (h:Fb E P g W) (hne:c ≠ g):Fb E P g (W.setCell ⟨c,o,none⟩ u):=by
 refine ⟨?_,?_⟩
 ·rw [World.cell?_setCell_far _ _ _ _ hne];exact h.1
 ·rw [World.cell?_setCell_far _ _ _ _ hne];exact h.2
theorem bset {w w1:World} {c o:Nat} {u:Value} (h:Below w.heap.size w w1) (hc:w.heap.size≤c):Below w.heap.size w (w1.setCell ⟨c,o,none⟩ u):=h.setCell hc u
theorem frozen_set {W:World} {a p:Addr} {u:Value}:(W.setCell p u).frozen? a=W.frozen? a:=by simp
theorem Nb.set {g c o:Nat} {ng:Bool} {m e:Int} {u:Value} {W:World} (h:Nb g ng m e W) (hne:c ≠ g):Nb g ng m e (W.setCell ⟨c,o,none⟩ u):=by
 refine ⟨⟨?_,?_,?_⟩,?_,?_,?_⟩
 ·rw [World.cell?_setCell_far _ _ _ _ hne];exact h.1.1
 ·rw [World.cell?_setCell_far _ _ _ _ hne];exact h.1.2.1
 ·rw [World.cell?_setCell_far _ _ _ _ hne];exact h.1.2.2
 ·rw [frozen_set];exact h.2.1
 ·rw [frozen_set];exact h.2.2.1
 ·rw [frozen_set];exact h.2.2.2
theorem sSame {W:World} {g o:Nat} {v u:Value} (h:W.cell? ⟨g,o,none⟩=some u):(W.setCell ⟨g,o,none⟩ v).cell? ⟨g,o,none⟩=some v:=World.cell?_setCell_same _ _ _ h
theorem sOther {W:World} {g o o':Nat} {v u:Value} (h:W.cell? ⟨g,o',none⟩=some u) (hne:o ≠ o'):(W.setCell ⟨g,o,none⟩ v).cell? ⟨g,o',none⟩=some u:=by
 rw [World.cell?_setCell_other _ _ _ _ (fun e => hne (by injection e))];exact h
theorem Nb.store {g:Nat} {ng ng':Bool} {m e m' e':Int} {W:World} (h:Nb g ng m e W) :
  Nb g ng' m' e' (((W.setCell ⟨g,0,none⟩ (.bool ng')).setCell ⟨g,1,none⟩ (.int .u64 m')).setCell ⟨g,2,none⟩ (.int .i64 e')):=by
 have h0:=h.1.1
 have h1:=h.1.2.1
 have h2:=h.1.2.2
 refine ⟨⟨sOther (sOther (sSame h0) (by decide)) (by decide),sOther (sSame (sOther h1 (by decide))) (by decide),sSame (sOther (sOther h2 (by decide)) (by decide))⟩,?_,?_,?_⟩
 ·simp only [frozen_set];exact h.2.1
 ·simp only [frozen_set];exact h.2.2.1
 ·simp only [frozen_set];exact h.2.2.2
theorem Nb.setm {g:Nat} {ng:Bool} {m e m':Int} {W:World} (h:Nb g ng m e W):Nb g ng m' e (W.setCell ⟨g,1,none⟩ (.int .u64 m')):=by
 have h0:=h.1.1
 have h1:=h.1.2.1
 have h2:=h.1.2.2
 refine ⟨⟨sOther h0 (by decide),sSame h1,sOther h2 (by decide)⟩,?_,?_,?_⟩
 ·simp only [frozen_set];exact h.2.1
 ·simp only [frozen_set];exact h.2.2.1
 ·simp only [frozen_set];exact h.2.2.2
theorem Nb.sete {g:Nat} {ng:Bool} {m e e':Int} {W:World} (h:Nb g ng m e W):Nb g ng m e' (W.setCell ⟨g,2,none⟩ (.int .i64 e')):=by
 have h0:=h.1.1
 have h1:=h.1.2.1
 have h2:=h.1.2.2
 refine ⟨⟨sOther h0 (by decide),sOther h1 (by decide),sSame h2⟩,?_,?_,?_⟩
 ·simp only [frozen_set];exact h.2.1
 ·simp only [frozen_set];exact h.2.2.1
 ·simp only [frozen_set];exact h.2.2.2
def Sx (E P:Int) (w W:World):Prop:=Fb E P w.heap.size W∧Below w.heap.size w W
theorem Sx.lt {E P:Int} {w W:World} (h:Sx E P w W):w.heap.size < W.heap.size:=h.1.lt
theorem Sx.call {E P:Int} {w W W':World} (h:Sx E P w W) (hb:Below W.heap.size W W'):Sx E P w W':=⟨h.1.call hb,bnext h.2 hb⟩
theorem Sx.alloc {E P:Int} {w W:World} (h:Sx E P w W) (o:Obj):Sx E P w (W.alloc o):=h.call (ball W o)
theorem Sx.drew {E P:Int} {w W:World} (h:Sx E P w W):Sx E P w W.drew:=⟨h.1,h.2.drew⟩
theorem Sx.drewN {E P:Int} {w W:World} (h:Sx E P w W) (n:Nat):Sx E P w (W.drewN n):=⟨h.1,below_drewN h.2 n⟩
theorem Sx.new (E P:Int) (w:World):Sx E P w (w.alloc (.cells #[.int .i64 E,.int .i64 P] 141)):=⟨Fb.new E P w,ball w _⟩
theorem Sx.set {E P:Int} {w W:World} {c o:Nat} {u:Value} (h:Sx E P w W) (hne:w.heap.size < c):Sx E P w (W.setCell ⟨c,o,none⟩ u):=⟨h.1.set (by omega),bset h.2 (by omega)⟩
theorem Nb.set3 {g c:Nat} {ng:Bool} {m e:Int} {W:World} (h:Nb g ng m e W) (u0 u1 u2:Value) (hne:c ≠ g):Nb g ng m e (((W.setCell ⟨c,0,none⟩ u0).setCell ⟨c,1,none⟩ u1).setCell ⟨c,2,none⟩ u2):=((h.set hne).set hne).set hne
theorem Sx.set3 {E P:Int} {w W:World} {c:Nat} (h:Sx E P w W) (u0 u1 u2:Value) (hne:w.heap.size < c):Sx E P w (((W.setCell ⟨c,0,none⟩ u0).setCell ⟨c,1,none⟩ u1).setCell ⟨c,2,none⟩ u2):=((h.set hne).set hne).set hne
end Go.Proofs.YtlhakbkdlgejpaaGreatDoor.Fl
