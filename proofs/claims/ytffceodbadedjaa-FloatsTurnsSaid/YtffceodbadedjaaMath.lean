/-
  Rounding, on plain numbers: what 'nearest' comes to, that it does not change by powers of two, and that one bit tells all that was left out. No condition but where a theorem says so.
-/
import Ieee.Arith
set_option linter.unusedSimpArgs false
set_option linter.unusedVariables false
namespace Go.Proofs.Ytffceodbadedjaa
open Ieee

/-- n / 2^d to the nearest, between two to the even one. -/
def rne (n d : Nat) : Nat :=
  n / 2 ^ d + (if 2 ^ d < 2 * (n % 2 ^ d) ∨ (2 ^ d = 2 * (n % 2 ^ d) ∧ n / 2 ^ d % 2 = 1) then 1 else 0)

theorem log2_two_pow_mul {m : Nat} (hm : m ≠ 0) (k : Nat) : (m * 2 ^ k).log2 = m.log2 + k := by
  have h2 : 0 < 2 ^ k := Nat.two_pow_pos k
  have hne : m * 2 ^ k ≠ 0 := Nat.mul_ne_zero hm (by omega)
  rw [Nat.log2_eq_iff hne]
  have h1 := Nat.log2_self_le hm
  have h3 := @Nat.lt_log2_self m
  constructor
  · rw [Nat.pow_add]; exact Nat.mul_le_mul_right _ h1
  · rw [show m.log2 + k + 1 = (m.log2 + 1) + k by omega, Nat.pow_add 2 (m.log2 + 1) k]
    exact Nat.mul_lt_mul_of_pos_right h3 h2

theorem rne_zero (n : Nat) : rne n 0 = n := by
  unfold rne; simp [Nat.mod_one]

theorem rne_big {n d : Nat} (h : 2 * n < 2 ^ d) : rne n d = 0 := by
  unfold rne
  have h1 : n < 2 ^ d := by omega
  rw [Nat.div_eq_of_lt h1, Nat.mod_eq_of_lt h1]
  simp
  omega

theorem cut_rne (neg : Bool) (n d : Nat) : Toward.even.cut neg n d = rne n d := by
  have key : ∀ D : Nat, (n / 2 ^ D + (decide (2 ^ D < 2 * (n % 2 ^ D)) || (2 ^ D == 2 * (n % 2 ^ D) && n / 2 ^ D % 2 == 1)).toNat) = rne n D := by
    intro D
    unfold rne
    congr 1
    by_cases h1 : 2 ^ D < 2 * (n % 2 ^ D)
    · simp [h1]
    · by_cases h2 : 2 ^ D = 2 * (n % 2 ^ D)
      · by_cases h3 : n / 2 ^ D % 2 = 1
        · simp [h1, h2.symm, h3]
        · have : (n / 2 ^ D % 2 == 1) = false := by simpa using h3
          simp [h1, h2.symm, h3]
      · have : (2 ^ D == 2 * (n % 2 ^ D)) = false := by simpa using h2
        simp [h1, h2, this]
  unfold Toward.cut
  simp only [Nat.one_shiftLeft]
  by_cases h : d ≤ n.log2 + 2
  · rw [Nat.min_eq_left h]; exact key d
  · rw [Nat.min_eq_right (by omega), key]
    have hn := @Nat.lt_log2_self n
    have e : (2 : Nat) ^ (n.log2 + 2) = 2 * 2 ^ (n.log2 + 1) := by rw [show n.log2 + 2 = (n.log2 + 1) + 1 by omega, Nat.pow_succ]; omega
    have hle : (2 : Nat) ^ (n.log2 + 2) ≤ 2 ^ d := Nat.pow_le_pow_right (by omega) (by omega)
    rw [rne_big (by omega), rne_big (by omega)]

theorem rne_scale (n d k : Nat) : rne (n * 2 ^ k) (d + k) = rne n d := by
  have h2 : 0 < 2 ^ k := Nat.two_pow_pos k
  unfold rne
  rw [Nat.pow_add, Nat.mul_div_mul_right _ _ h2, Nat.mul_mod_mul_right]
  congr 1
  have e1 : 2 ^ d * 2 ^ k < 2 * (n % 2 ^ d * 2 ^ k) ↔ 2 ^ d < 2 * (n % 2 ^ d) := by
    rw [← Nat.mul_assoc]; exact Nat.mul_lt_mul_right h2
  have e2 : 2 ^ d * 2 ^ k = 2 * (n % 2 ^ d * 2 ^ k) ↔ 2 ^ d = 2 * (n % 2 ^ d) := by
    rw [← Nat.mul_assoc]; exact ⟨fun h => Nat.eq_of_mul_eq_mul_right h2 h, fun h => congrArg (· * 2 ^ k) h⟩
  simp only [e1, e2]

/-- The same, to a place that may lie on either side. -/
def rneI (n : Nat) (d : Int) : Nat := if 0 ≤ d then rne n d.toNat else n * 2 ^ (-d).toNat

theorem rneI_scale (n : Nat) (d : Int) (k : Nat) : rneI (n * 2 ^ k) (d + k) = rneI n d := by
  unfold rneI
  by_cases h : 0 ≤ d
  · rw [if_pos h, if_pos (by omega), show (d + k).toNat = d.toNat + k by omega, rne_scale]
  · rw [if_neg h]
    by_cases h' : 0 ≤ d + k
    · rw [if_pos h']
      obtain ⟨j, hj⟩ : ∃ j : Nat, j = (d + k).toNat := ⟨_, rfl⟩
      have e : k = (-d).toNat + j := by omega
      rw [← hj]
      have e3 : n * 2 ^ k = n * 2 ^ (-d).toNat * 2 ^ j := by rw [Nat.mul_assoc, ← Nat.pow_add, ← e]
      have := rne_scale (n * 2 ^ (-d).toNat) 0 j
      rw [Nat.zero_add, rne_zero] at this
      rw [e3, this]
    · rw [if_neg h']
      rw [Nat.mul_assoc, ← Nat.pow_add]
      congr 2
      omega

/-- The place of the last digit that is kept. -/
def lastP (f : Format) (m : Nat) (e : Int) : Int := max (e + m.log2 - f.fractionBits) f.leastPlace

def rungOf (f : Format) (m : Nat) (e : Int) : Nat :=
  if m = 0 then 0 else min ((lastP f m e - f.leastPlace).toNat * 2 ^ f.fractionBits + rneI m (lastP f m e - e)) f.infRung

theorem nearest_eq (f : Format) (neg : Bool) (m : Nat) (e : Int) : f.nearest neg m e = f.word neg (rungOf f m e) := by
  unfold Format.nearest rungOf
  by_cases hm : m = 0
  · simp [hm]
  · simp only [if_neg hm]
    rw [show max (e + ↑m.log2 - ↑f.fractionBits) f.leastPlace = lastP f m e from rfl]
    congr 2
    rw [cut_rne]
    show _ = _ + rneI m (lastP f m e - e)
    congr 1
    unfold rneI
    rw [Nat.shiftLeft_eq]
    by_cases h : 0 ≤ lastP f m e - e
    · rw [if_pos h, show (e - lastP f m e).toNat = 0 by omega]; simp
    · rw [if_neg h, show (lastP f m e - e).toNat = 0 by omega, rne_zero, show (-(lastP f m e - e)).toNat = (e - lastP f m e).toNat by omega]

theorem lastP_scale (f : Format) {m : Nat} (hm : m ≠ 0) (e : Int) (k : Nat) : lastP f (m * 2 ^ k) (e - k) = lastP f m e := by
  unfold lastP; rw [log2_two_pow_mul hm]; congr 2; omega

theorem rungOf_scale (f : Format) (m : Nat) (e : Int) (k : Nat) : rungOf f (m * 2 ^ k) (e - k) = rungOf f m e := by
  by_cases hm : m = 0
  · simp [rungOf, hm]
  · have h2 : 0 < 2 ^ k := Nat.two_pow_pos k
    have hne : m * 2 ^ k ≠ 0 := Nat.mul_ne_zero hm (by omega)
    unfold rungOf
    rw [if_neg hm, if_neg hne, lastP_scale f hm]
    rw [show lastP f m e - (e - k) = lastP f m e - e + k by omega, rneI_scale]

/-- What is left out, told by one bit. -/
def jam (M d : Nat) : Nat := 2 * (M / 2 ^ d) + (if M % 2 ^ d = 0 then 0 else 1)

theorem jam_log2 {M d : Nat} (h : M / 2 ^ d ≠ 0) : (jam M d).log2 + d = M.log2 + 1 := by
  have hq : (jam M d).log2 = (M / 2 ^ d).log2 + 1 := by
    have hne : jam M d ≠ 0 := by unfold jam; omega
    rw [Nat.log2_eq_iff hne]
    have h1 := Nat.log2_self_le h
    have h2 := @Nat.lt_log2_self (M / 2 ^ d)
    have e1 : (2 : Nat) ^ ((M / 2 ^ d).log2 + 1) = 2 * 2 ^ (M / 2 ^ d).log2 := by rw [Nat.pow_succ]; omega
    have e2 : (2 : Nat) ^ ((M / 2 ^ d).log2 + 1 + 1) = 2 * 2 ^ ((M / 2 ^ d).log2 + 1) := by rw [Nat.pow_succ 2 ((M / 2 ^ d).log2 + 1)]; omega
    unfold jam
    constructor
    · rw [e1]; omega
    · rw [e2]; split <;> omega
  have hM : M.log2 = (M / 2 ^ d).log2 + d := by
    have hM0 : M ≠ 0 := by intro h0; rw [h0] at h; simp at h
    rw [Nat.log2_eq_iff hM0]
    have h1 := Nat.log2_self_le h
    have h2 := @Nat.lt_log2_self (M / 2 ^ d)
    have hp : 0 < 2 ^ d := Nat.two_pow_pos d
    have hdm := Nat.div_add_mod M (2 ^ d)
    have hml := Nat.mod_lt M hp
    constructor
    · rw [Nat.pow_add]
      calc 2 ^ (M / 2 ^ d).log2 * 2 ^ d ≤ M / 2 ^ d * 2 ^ d := Nat.mul_le_mul_right _ h1
        _ ≤ M := Nat.div_mul_le_self _ _
    · rw [show (M / 2 ^ d).log2 + d + 1 = ((M / 2 ^ d).log2 + 1) + d by omega, Nat.pow_add 2 ((M / 2 ^ d).log2 + 1)]
      exact (Nat.div_lt_iff_lt_mul hp).1 h2
  omega

theorem rne_jam (M d D : Nat) (hD : 2 ≤ D) : rne (jam M d) D = rne M (D + d - 1) := by
  obtain ⟨c, rfl⟩ : ∃ c, D = c + 2 := ⟨D - 2, by omega⟩
  rw [show c + 2 + d - 1 = c + 1 + d by omega]
  have hp : 0 < 2 ^ d := Nat.two_pow_pos d
  have hh : 0 < 2 ^ c := Nat.two_pow_pos c
  have hdm := Nat.div_add_mod M (2 ^ d)
  have hml := Nat.mod_lt M hp
  obtain ⟨q, hq⟩ : ∃ q, q = M / 2 ^ d := ⟨_, rfl⟩
  obtain ⟨r, hr⟩ : ∃ r, r = M % 2 ^ d := ⟨_, rfl⟩
  obtain ⟨P, hP⟩ : ∃ P, P = 2 ^ d := ⟨_, rfl⟩
  obtain ⟨h, hh'⟩ : ∃ h, h = 2 ^ c := ⟨_, rfl⟩
  have hqd := Nat.div_add_mod q (2 * h)
  have hql := Nat.mod_lt q (show 0 < 2 * h by omega)
  have e1 : (2 : Nat) ^ (c + 2) = 4 * h := by rw [Nat.pow_add, hh']; omega
  have e2 : (2 : Nat) ^ (c + 1 + d) = P * (2 * h) := by rw [Nat.pow_add, Nat.pow_succ, hh', hP, Nat.mul_comm (2 ^ c) 2, Nat.mul_comm]
  unfold rne jam
  rw [← hq, ← hr, e1, e2]
  -- quotients
  have s2 : (if r = 0 then (0 : Nat) else 1) < 2 := by split <;> omega
  obtain ⟨s, hs⟩ : ∃ s, s = (if r = 0 then (0 : Nat) else 1) := ⟨_, rfl⟩
  rw [← hs] at s2 ⊢
  obtain ⟨Q, hQ⟩ : ∃ Q, Q = q / (2 * h) := ⟨_, rfl⟩
  obtain ⟨q', hq'⟩ : ∃ q', q' = q % (2 * h) := ⟨_, rfl⟩
  rw [← hQ, ← hq'] at hqd
  rw [← hq'] at hql
  have d1 : (2 * q + s) / (4 * h) = Q := by
    rw [show 2 * q + s = (2 * q' + s) + (4 * h) * Q by rw [← hqd, Nat.mul_add]; have : 2 * (2 * h * Q) = 4 * h * Q := by rw [← Nat.mul_assoc, ← Nat.mul_assoc]; 
                                                       omega]
    rw [Nat.add_mul_div_left _ _ (by omega), Nat.div_eq_of_lt (by omega)]; omega
  have m1 : (2 * q + s) % (4 * h) = 2 * q' + s := by
    rw [show 2 * q + s = (2 * q' + s) + (4 * h) * Q by rw [← hqd, Nat.mul_add]; have : 2 * (2 * h * Q) = 4 * h * Q := by rw [← Nat.mul_assoc, ← Nat.mul_assoc]; 
                                                       omega]
    rw [Nat.add_mul_mod_self_left, Nat.mod_eq_of_lt (by omega)]
  have d2 : M / (P * (2 * h)) = Q := by rw [hP, ← Nat.div_div_eq_div_mul, ← hq, hQ]
  have m2 : M % (P * (2 * h)) = r + P * q' := by rw [hP, Nat.mod_mul, ← hq, ← hr, ← hq']
  rw [d1, m1, d2, m2]
  rw [← hr, ← hP] at hml
  rw [← hP] at hp
  congr 1
  have c1 : 4 * h < 2 * (2 * q' + s) ↔ P * (2 * h) < 2 * (r + P * q') := by
    rw [show P * (2 * h) = 2 * (P * h) by rw [← Nat.mul_assoc, Nat.mul_comm P 2, Nat.mul_assoc]]
    rcases Nat.lt_trichotomy q' h with hl | hl | hl
    · have : P * (q' + 1) ≤ P * h := Nat.mul_le_mul_left _ hl
      rw [Nat.mul_add] at this
      constructor <;> intro _ <;> omega
    · subst hl
      by_cases h0 : r = 0
      · rw [if_pos h0] at hs; constructor <;> intro _ <;> omega
      · rw [if_neg h0] at hs; constructor <;> intro _ <;> omega
    · have : P * (h + 1) ≤ P * q' := Nat.mul_le_mul_left _ hl
      rw [Nat.mul_add] at this
      constructor <;> intro _ <;> omega
  have c2 : 4 * h = 2 * (2 * q' + s) ↔ P * (2 * h) = 2 * (r + P * q') := by
    rw [show P * (2 * h) = 2 * (P * h) by rw [← Nat.mul_assoc, Nat.mul_comm P 2, Nat.mul_assoc]]
    rcases Nat.lt_trichotomy q' h with hl | hl | hl
    · have : P * (q' + 1) ≤ P * h := Nat.mul_le_mul_left _ hl
      rw [Nat.mul_add] at this
      constructor <;> intro _ <;> omega
    · subst hl
      by_cases h0 : r = 0
      · rw [if_pos h0] at hs; constructor <;> intro _ <;> omega
      · rw [if_neg h0] at hs; constructor <;> intro _ <;> omega
    · have : P * (h + 1) ≤ P * q' := Nat.mul_le_mul_left _ hl
      rw [Nat.mul_add] at this
      constructor <;> intro _ <;> omega
  simp only [c1, c2]

theorem rungOf_jam (f : Format) (M d : Nat) (e : Int) (h : 2 ^ (f.fractionBits + 1) ≤ M / 2 ^ d) : rungOf f (jam M d) (e + d - 1) = rungOf f M e := by
  have hp : 0 < 2 ^ (f.fractionBits + 1) := Nat.two_pow_pos _
  have hq : M / 2 ^ d ≠ 0 := by omega
  have hM : M ≠ 0 := by intro h0; rw [h0] at hq; simp at hq
  have hj : jam M d ≠ 0 := by unfold jam; omega
  have hl := jam_log2 hq
  have hL : lastP f (jam M d) (e + d - 1) = lastP f M e := by unfold lastP; congr 2; omega
  have hlog : f.fractionBits + 2 ≤ (jam M d).log2 := by
    rw [Nat.le_log2 hj]
    unfold jam
    rw [Nat.pow_succ]; omega
  unfold rungOf
  rw [if_neg hM, if_neg hj, hL]
  congr 2
  unfold rneI
  have hge : e + d - 1 + (jam M d).log2 - f.fractionBits ≤ lastP f (jam M d) (e + d - 1) := Int.le_max_left _ _
  rw [hL] at hge
  rw [if_pos (by omega), if_pos (by omega), rne_jam _ _ _ (by omega)]
  congr 1
  omega

/-- A number times a power of two, and perhaps a little more, rounded. -/
def rungR (f : Format) (m : Nat) (e : Int) (more : Bool) : Nat := rungOf f (2 * m + more.toNat) (e - 1)

theorem rungR_false (f : Format) (m : Nat) (e : Int) : rungR f m e false = rungOf f m e := by
  have := rungOf_scale f m e 1
  unfold rungR
  rw [← this]
  congr 1
  simp; omega

theorem rungR_jam (f : Format) (M d : Nat) (e : Int) (h : M % 2 ^ d ≠ 0 → 2 ^ (f.fractionBits + 1) ≤ M / 2 ^ d) :
    rungR f (M / 2 ^ d) (e + d) (decide (M % 2 ^ d ≠ 0)) = rungOf f M e := by
  by_cases h0 : M % 2 ^ d = 0
  · simp only [h0, ne_eq, not_true_eq_false, decide_false, rungR_false]
    have := rungOf_scale f (M / 2 ^ d) (e + d) d
    rw [Nat.div_mul_cancel (Nat.dvd_of_mod_eq_zero h0), show e + ↑d - ↑d = e by omega] at this
    exact this.symm
  · rw [← rungOf_jam f M d e (h h0)]
    unfold rungR jam
    simp [h0]

theorem rungR_scale (f : Format) (m : Nat) (e : Int) (more : Bool) (k : Nat) (h : more = true → 2 ^ (f.fractionBits + 1) ≤ m) :
    rungR f (m * 2 ^ k) (e - k) more = rungR f m e more := by
  cases more with
  | false => rw [rungR_false, rungR_false, rungOf_scale]
  | true =>
    have hk : 0 < 2 ^ k := Nat.two_pow_pos k
    have hk1 : 1 < 2 ^ (k + 1) := by rw [Nat.pow_succ]; omega
    have hdiv : (2 * (m * 2 ^ k) + 1) / 2 ^ (k + 1) = m := by
      rw [show 2 * (m * 2 ^ k) + 1 = 1 + 2 ^ (k + 1) * m by rw [Nat.pow_succ, Nat.mul_comm m, Nat.mul_comm (2 ^ k) 2, Nat.mul_assoc]; omega]
      rw [Nat.add_mul_div_left _ _ (by omega), Nat.div_eq_of_lt hk1]; omega
    have hmod : (2 * (m * 2 ^ k) + 1) % 2 ^ (k + 1) = 1 := by
      rw [show 2 * (m * 2 ^ k) + 1 = 1 + 2 ^ (k + 1) * m by rw [Nat.pow_succ, Nat.mul_comm m, Nat.mul_comm (2 ^ k) 2, Nat.mul_assoc]; omega]
      rw [Nat.add_mul_mod_self_left, Nat.mod_eq_of_lt hk1]
    have := rungOf_jam f (2 * (m * 2 ^ k) + 1) (k + 1) (e - k - 1) (by rw [hdiv]; exact h rfl)
    unfold rungR
    show rungOf f (2 * (m * 2 ^ k) + 1) (e - k - 1) = _
    rw [← this]
    unfold jam
    rw [hdiv, hmod]
    simp
    congr 1
    omega

end Go.Proofs.Ytffceodbadedjaa
