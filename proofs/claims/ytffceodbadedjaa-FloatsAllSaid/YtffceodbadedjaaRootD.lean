/-
  A root rounded to 53 bits and then to 24 is the root rounded to 24. Condition: the number has at most 24 bits.
-/
import Derived.Test.YtffceodbadedjaaRootLoop
import Derived.Test.YtffceodbadedjaaRWholeM
set_option linter.unusedSimpArgs false
set_option linter.unusedVariables false
namespace Go.Proofs.Ytffceodbadedjaa
open Ieee

theorem sq_exp (h c : Nat) : (h * 34359738368 + c) * (h * 34359738368 + c) = 1180591620717411303424 * (h * h) + 68719476736 * (h * c) + c * c := by
  rw [Nat.add_mul, Nat.mul_add, Nat.mul_add]
  have e1 : h * 34359738368 * (h * 34359738368) = 1180591620717411303424 * (h * h) := by
    rw [Nat.mul_mul_mul_comm]; omega
  have e2 : h * 34359738368 * c = 34359738368 * (h * c) := by rw [Nat.mul_right_comm, Nat.mul_comm]
  have e3 : c * (h * 34359738368) = 34359738368 * (h * c) := by rw [← Nat.mul_assoc, Nat.mul_comm c h, Nat.mul_comm]
  rw [e1, e2, e3]; omega

/-- The rest of a root behind 25 digits is nothing, or is not near nothing nor near a whole one. -/
theorem sqrt_gap (n' R : Nat) (hs : SqrtOf (n' * 1180591620717411303424) R) (hR1 : 576460752303423488 ≤ R) (hR2 : R < 1152921504606846976) :
    (R % 34359738368 = 0 ∧ R * R = n' * 1180591620717411303424) ∨ (511 ≤ R % 34359738368 ∧ R % 34359738368 ≤ 34359737856) := by
  obtain ⟨s1, s2⟩ := hs
  obtain ⟨h, hh⟩ : ∃ h : Nat, h = R / 34359738368 := ⟨_, rfl⟩
  obtain ⟨d, hd⟩ : ∃ d : Nat, d = R % 34359738368 := ⟨_, rfl⟩
  have hRe : R = h * 34359738368 + d := by omega
  have hhb : h < 33554432 := by omega
  have hdb : d < 34359738368 := by omega
  rw [← hd]
  rcases Nat.lt_trichotomy n' (h * h) with hc | hc | hc
  · exfalso
    have e := sq_exp h d
    rw [← hRe] at e
    omega
  · left
    have e := sq_exp h d
    rw [← hRe] at e
    have hd0 : d * d = 0 := by omega
    have hd1 : d = 0 := by
      rcases Nat.eq_zero_or_pos d with h0 | h0
      · exact h0
      · have := Nat.mul_pos h0 h0; omega
    refine ⟨hd1, ?_⟩
    have hz : h * d = 0 := by rw [hd1, Nat.mul_zero]
    omega
  · right
    constructor
    · rcases Nat.lt_or_ge d 511 with h1 | h1
      · exfalso
        have h2 : (R + 1) * (R + 1) ≤ (h * 34359738368 + 511) * (h * 34359738368 + 511) := Nat.mul_le_mul (by omega) (by omega)
        rw [sq_exp h 511] at h2
        omega
      · exact h1
    · rcases Nat.lt_or_ge 34359737856 d with h1 | h1
      · exfalso
        obtain ⟨g, hg⟩ : ∃ g : Nat, g = h + 1 := ⟨_, rfl⟩
        have h2 : (g * 34359738368 + 0) * (g * 34359738368 + 0) ≤ (R + 511) * (R + 511) := Nat.mul_le_mul (by omega) (by omega)
        have h3 : (R + 1) * (R + 1) ≤ (g * 34359738368 + 0) * (g * 34359738368 + 0) := Nat.mul_le_mul (by omega) (by omega)
        rw [sq_exp g 0] at h2 h3
        rw [Nat.mul_zero] at h2 h3
        have e : (R + 511) * (R + 511) = R * R + 1022 * R + 261121 := by
          rw [Nat.add_mul, Nat.mul_add, Nat.mul_add]; omega
        rw [e] at h2
        generalize g * g = G at *
        omega
      · exact h1

theorem rne_near (n d : Nat) : n / 2 ^ d ≤ rne n d ∧ rne n d ≤ n / 2 ^ d + 1 := by
  unfold rne
  generalize n / 2 ^ d = q
  constructor <;> (split <;> (try split) <;> omega)
theorem rne_exact (q : Nat) : rne (q * 256) 8 = q := by
  have := rne_scale q 0 8
  rw [show (2 : Nat) ^ 8 = 256 by decide, Nat.zero_add] at this
  rw [this, rne_zero]

/-- What comes of it: the number of 53 bits tells the 25 digits, and whether anything is left. -/
theorem root_53 (n' R X : Nat) (s : Bool) (hs : SqrtOf (n' * 1180591620717411303424) R) (hR1 : 576460752303423488 ≤ R) (hR2 : R < 1152921504606846976)
    (hsb : s = decide (R * R ≠ n' * 1180591620717411303424)) (hX : X = 2 * R + s.toNat) :
    1152921504606846976 ≤ X ∧ X < 2305843009213693952 ∧ 4503599627370496 ≤ rne X 8 ∧ rne X 8 < 9007199254740992 ∧ rne X 8 / 268435456 = X / 68719476736 ∧ (rne X 8 % 268435456 = 0 ↔ X % 68719476736 = 0) := by
  have hst := Bool.toNat_le s
  rcases sqrt_gap n' R hs hR1 hR2 with ⟨h1, h2⟩ | ⟨h1, h2⟩
  · have hs0 : s = false := by rw [hsb]; exact decide_eq_false (fun h => h h2)
    rw [hs0] at hX
    have hX2 : X = (R / 34359738368 * 268435456) * 256 := by
      have : (false : Bool).toNat = 0 := rfl
      omega
    have hr : rne X 8 = R / 34359738368 * 268435456 := by rw [hX2]; exact rne_exact _
    rw [hr]
    omega
  · have hn := rne_near X 8
    rw [show (2 : Nat) ^ 8 = 256 by decide] at hn
    generalize rne X 8 = M at *
    generalize s.toNat = c at *
    clear hs hsb
    refine ⟨by omega, by omega, by omega, by omega, by omega, by omega⟩

theorem rung_x (X M : Nat) (e : Int) (hX1 : 1152921504606846976 ≤ X) (hX2 : X < 2305843009213693952) (hM : M = rne X 8) (hM1 : 4503599627370496 ≤ M) (hM2 : M < 9007199254740992) (he : -1000 ≤ e) :
    rungOf double X (e - 1) = rungOf double M (e + 7) := by
  have l1 : X.log2 = 60 := by rw [Nat.log2_eq_iff (by omega)]; exact ⟨hX1, hX2⟩
  have l2 : M.log2 = 52 := by rw [Nat.log2_eq_iff (by omega)]; exact ⟨hM1, hM2⟩
  have p1 : lastP double X (e - 1) = e + 7 := by
    unfold lastP; rw [l1]
    show max (e - 1 + ((60 : Nat) : Int) - ((52 : Nat) : Int)) (-1074) = _
    omega
  have p2 : lastP double M (e + 7) = e + 7 := by
    unfold lastP; rw [l2]
    show max (e + 7 + ((52 : Nat) : Int) - ((52 : Nat) : Int)) (-1074) = _
    omega
  unfold rungOf
  rw [if_neg (by omega), if_neg (by omega), p1, p2]
  have r1 : rneI X (e + 7 - (e - 1)) = M := by
    rw [show e + 7 - (e - 1) = 8 by omega]
    unfold rneI; rw [if_pos (by decide)]; exact hM.symm
  have r2 : rneI M (e + 7 - (e + 7)) = M := by
    rw [show e + 7 - (e + 7) = 0 by omega]
    unfold rneI; rw [if_pos (by decide)]; exact rne_zero M
  rw [r1, r2]

theorem rung_lt (M : Nat) (e : Int) (hM1 : 4503599627370496 ≤ M) (hM2 : M < 9007199254740992) (h0 : -170 ≤ e) (h1 : e ≤ 30) : rungOf single M e < 2139095040 := by
  have l2 : M.log2 = 52 := by rw [Nat.log2_eq_iff (by omega)]; exact ⟨hM1, hM2⟩
  have p2 : lastP single M e = e + 29 := by
    unfold lastP; rw [l2]
    show max (e + ((52 : Nat) : Int) - ((23 : Nat) : Int)) (-149) = _
    omega
  unfold rungOf
  rw [if_neg (by omega), p2]
  have r : rneI M (e + 29 - e) ≤ 16777217 := by
    rw [show e + 29 - e = 29 by omega]
    unfold rneI; rw [if_pos (by decide)]
    have := (rne_near M 29).2
    rw [show (2 : Nat) ^ 29 = 536870912 by decide] at this
    show rne M 29 ≤ 16777217
    omega
  show min ((e + 29 - (-149)).toNat * 8388608 + rneI M (e + 29 - e)) 2139095040 < 2139095040
  have : (e + 29 - (-149)).toNat ≤ 208 := by omega
  omega

theorem rung_jam2 (X M : Nat) (e : Int) (hX1 : 1152921504606846976 ≤ X) (hM1 : 4503599627370496 ≤ M) (hq : M / 268435456 = X / 68719476736) (hz : M % 268435456 = 0 ↔ X % 68719476736 = 0) :
    rungOf single M (e + 7) = rungOf single X (e - 1) := by
  have j1 := rungOf_jam single M 28 (e + 7) (by show (2 : Nat) ^ 24 ≤ M / 268435456; have : (2 : Nat) ^ 24 = 16777216 := by decide
                                                omega)
  have j2 := rungOf_jam single X 36 (e - 1) (by show (2 : Nat) ^ 24 ≤ X / 68719476736; have : (2 : Nat) ^ 24 = 16777216 := by decide
                                                omega)
  rw [← j1, ← j2]
  have : jam M 28 = jam X 36 := by
    unfold jam
    rw [show (2 : Nat) ^ 28 = 268435456 by decide, show (2 : Nat) ^ 36 = 68719476736 by decide, hq]
    by_cases h : M % 268435456 = 0
    · rw [if_pos h, if_pos (hz.1 h)]
    · rw [if_neg h, if_neg (fun h2 => h (hz.2 h2))]
  rw [this, show e + 7 + ((28 : Nat) : Int) - 1 = e - 1 + ((36 : Nat) : Int) - 1 by omega]

/-- The root of a number of at most 24 bits, as a float of 64 bits and then of 32. -/
theorem root_twice (n' R : Nat) (e : Int) (hs : SqrtOf (n' * 1180591620717411303424) R) (hR1 : 576460752303423488 ≤ R) (hR2 : R < 1152921504606846976) (h0 : -170 ≤ e) (h1 : e ≤ 20) :
    floatToFloatBits .f64 (double.word false (rungS double (n' * 1180591620717411303424) R e)) .f32 = some (single.word false (rungS single (n' * 1180591620717411303424) R e)) := by
  unfold rungS rungR
  obtain ⟨s, hsb⟩ : ∃ s : Bool, s = decide (R * R ≠ n' * 1180591620717411303424) := ⟨_, rfl⟩
  rw [← hsb]
  obtain ⟨X, hX⟩ : ∃ X : Nat, X = 2 * R + s.toNat := ⟨_, rfl⟩
  rw [← hX]
  obtain ⟨x1, x2, m1, m2, q, z⟩ := root_53 n' R X s hs hR1 hR2 hsb hX
  obtain ⟨M, hM⟩ : ∃ M : Nat, M = rne X 8 := ⟨_, rfl⟩
  rw [← hM] at m1 m2 q z
  rw [rung_x X M e x1 x2 hM m1 m2 (by omega), ← rung_jam2 X M e x1 m1 q z]
  have := demote_num false M (e + 7) m2 (by omega) (by omega) (rung_lt M (e + 7) m1 m2 (by omega) (by omega))
  have w1 : double.write (.number false M (e + 7)) = double.word false (rungOf double M (e + 7)) := nearest_eq ..
  have w2 : single.write (.number false M (e + 7)) = single.word false (rungOf single M (e + 7)) := nearest_eq ..
  rw [w1, w2] at this
  exact this

end Go.Proofs.Ytffceodbadedjaa
