/-
  Numbers made whole, on plain numbers; a float's parts, rounded, are the float. Condition: the format is that of 32 or of 64 bits.
-/
import Derived.Test.YtffceodbadedjaaOpMath
set_option linter.unusedSimpArgs false
set_option linter.unusedVariables false
namespace Go.Proofs.Ytffceodbadedjaa
open Ieee

/-- Whether one is added where n is cut by d digits. -/
def cutUp (way : Toward) (neg : Bool) (n d : Nat) : Bool :=
  match way with
  | .even => decide (2 ^ d < 2 * (n % 2 ^ d)) || (2 ^ d == 2 * (n % 2 ^ d) && n / 2 ^ d % 2 == 1)
  | .down => neg && n % 2 ^ d != 0
  | .up => !neg && n % 2 ^ d != 0
  | .zero => false

theorem cut_plain (way : Toward) (neg : Bool) (n d : Nat) : way.cut neg n d = n / 2 ^ d + (cutUp way neg n d).toNat := by
  by_cases h : d ≤ n.log2 + 2
  · unfold Toward.cut cutUp
    simp only [Nat.one_shiftLeft]
    rw [Nat.min_eq_left h]
    cases way <;> rfl
  · have hn := @Nat.lt_log2_self n
    have e : (2 : Nat) ^ (n.log2 + 2) = 2 * 2 ^ (n.log2 + 1) := by rw [show n.log2 + 2 = (n.log2 + 1) + 1 by omega, Nat.pow_succ]; omega
    have hle : (2 : Nat) ^ (n.log2 + 2) ≤ 2 ^ d := Nat.pow_le_pow_right (by omega) (by omega)
    have d1 : n / 2 ^ d = 0 := Nat.div_eq_of_lt (by omega)
    have m1 : n % 2 ^ d = n := Nat.mod_eq_of_lt (by omega)
    have d2 : n / 2 ^ (n.log2 + 2) = 0 := Nat.div_eq_of_lt (by omega)
    have m2 : n % 2 ^ (n.log2 + 2) = n := Nat.mod_eq_of_lt (by omega)
    unfold Toward.cut cutUp
    simp only [Nat.one_shiftLeft]
    rw [Nat.min_eq_right (by omega), d1, m1, d2, m2]
    cases way
    · have e1 : decide (2 ^ d < 2 * n) = false := by simp; omega
      have e2 : (2 ^ d == 2 * n) = false := by simp; omega
      have e3 : decide (2 ^ (n.log2 + 2) < 2 * n) = false := by simp; omega
      have e4 : (2 ^ (n.log2 + 2) == 2 * n) = false := by simp; omega
      simp only [e1, e2, e3, e4]
    · rfl
    · rfl
    · rfl

/-- Behind 63 places nothing of a number below 2^62 is left, and less than a half. -/
theorem cutUp_far (way : Toward) (neg : Bool) (n d : Nat) (hn : n < 4611686018427387904) (hd : 63 ≤ d) : n / 2 ^ d = n / 2 ^ 63 ∧ cutUp way neg n d = cutUp way neg n 63 := by
  have hle : (2 : Nat) ^ 63 ≤ 2 ^ d := Nat.pow_le_pow_right (by omega) hd
  have h63 : (2 : Nat) ^ 63 = 9223372036854775808 := by decide
  have d1 : n / 2 ^ d = 0 := Nat.div_eq_of_lt (by omega)
  have m1 : n % 2 ^ d = n := Nat.mod_eq_of_lt (by omega)
  have d2 : n / 2 ^ 63 = 0 := Nat.div_eq_of_lt (by omega)
  have m2 : n % 2 ^ 63 = n := Nat.mod_eq_of_lt (by omega)
  refine ⟨by rw [d1, d2], ?_⟩
  unfold cutUp
  rw [d1, m1, d2, m2]
  cases way
  · have e1 : decide (2 ^ d < 2 * n) = false := by simp; omega
    have e2 : (2 ^ d == 2 * n) = false := by simp; omega
    have e3 : decide (2 ^ 63 < 2 * n) = false := by simp; omega
    have e4 : (2 ^ 63 == 2 * n) = false := by simp; omega
    simp only [e1, e2, e3, e4]
  · rfl
  · rfl
  · rfl

/-- The way of an operation. -/
def wayOf (op : Nat) : Toward := if op = 4 then .up else if op = 5 then .down else if op = 6 then .zero else .even

section
variable {f : Format} {SB INF P : Nat} {low : Int} (F : Fmt f SB INF P low) {a : Nat}
include F

theorem rungOf_parts {s : Nat} (hs : s < INF) : rungOf f (pm P s) (pe P low s) = s := by
  have hp : 0 < 2 ^ P := Nat.two_pow_pos P
  have hi := F.inf
  have hdm := Nat.div_add_mod s (2 ^ P)
  have hml := Nat.mod_lt s hp
  by_cases hq : s / 2 ^ P = 0
  · have e1 : pm P s = s := by unfold pm; rw [if_pos hq]
    have e2 : pe P low s = low := by unfold pe; rw [if_pos hq]
    rw [e1, e2]
    by_cases h0 : s = 0
    · subst h0; rfl
    · have hsp : s < 2 ^ P := by
        rcases Nat.lt_or_ge s (2 ^ P) with h | h
        · exact h
        · have := Nat.div_pos h hp; omega
      have hlog : s.log2 < P := log2_lt_of h0 hsp
      have hL : lastP f s low = low := by
        unfold lastP; rw [F.fr, F.lp]; omega
      unfold rungOf
      rw [if_neg h0, hL, F.lp, F.inf]
      unfold rneI
      rw [show low - low = 0 by omega, if_pos (by omega)]
      simp [rne_zero]
      omega
  · have e1 : pm P s = s % 2 ^ P + 2 ^ P := by unfold pm; rw [if_neg hq]
    have e2 := pe_eq P low s
    have hne : pm P s ≠ 0 := by omega
    have hlog : (pm P s).log2 = P := by
      rw [Nat.log2_eq_iff hne, e1]
      have : (2 : Nat) ^ (P + 1) = 2 * 2 ^ P := by rw [Nat.pow_succ]; omega
      omega
    have hL : lastP f (pm P s) (pe P low s) = pe P low s := by
      unfold lastP; rw [F.fr, F.lp, hlog]; omega
    unfold rungOf
    rw [if_neg hne, hL, F.lp, F.inf, F.fr]
    unfold rneI
    rw [show pe P low s - pe P low s = 0 by omega, if_pos (by omega)]
    simp only [Int.toNat_zero, rne_zero]
    rw [show (pe P low s - low).toNat = s / 2 ^ P - 1 by rw [e2]; generalize s / 2 ^ P = q; omega, e1]
    have : (s / 2 ^ P - 1) * 2 ^ P + (s % 2 ^ P + 2 ^ P) = s := by
      obtain ⟨q, hqe⟩ : ∃ q, s / 2 ^ P = q + 1 := ⟨s / 2 ^ P - 1, by generalize s / 2 ^ P = z at *; omega⟩
      rw [hqe] at hdm ⊢
      rw [Nat.mul_add, Nat.mul_one, Nat.mul_comm] at hdm
      rw [show q + 1 - 1 = q by omega]
      omega
    rw [this]
    omega

theorem word_sz (ha : a < 2 * SB) : f.word (decide (SB ≤ a)) (a % SB) = a := by
  unfold Format.word
  rw [F.sb]
  by_cases h : SB ≤ a
  · have : a % SB = a - SB := by rw [Nat.mod_eq_sub_mod h, Nat.mod_eq_of_lt (by omega)]
    simp [h, this]
  · simp [h, Nat.mod_eq_of_lt (show a < SB by omega)]

theorem read_12 (ha : a < 2 * SB) (h : kindOf INF (a % SB) = 1 ∨ kindOf INF (a % SB) = 2) : f.read a = .number (decide (SB ≤ a)) (pm P (a % SB)) (pe P low (a % SB)) ∧ a % SB < INF := by
  have hfin : a % SB < INF := by
    rcases h with h | h
    · rw [kind1.1 h]; exact F.inf0
    · exact (kind2.1 h).2
  exact ⟨read_fin F.sb F.fr F.lp ha (by rw [F.inf]; exact hfin), hfin⟩

theorem whole_inf (ha : a < 2 * SB) (h : kindOf INF (a % SB) = 3) (way : Toward) : f.write ((f.read a).integral way) = a := by
  rw [rk3 F ha h]
  show f.word _ f.infRung = a
  have h3 := (kind3 F.inf0).1 h
  have := word_sz F ha
  rw [h3] at this
  rw [F.inf]; exact this

theorem whole_big (ha : a < 2 * SB) (h : kindOf INF (a % SB) = 1 ∨ kindOf INF (a % SB) = 2) (he : 0 ≤ pe P low (a % SB)) (way : Toward) : f.write ((f.read a).integral way) = a := by
  have h1 := read_12 F ha h
  rw [h1.1]
  simp only [Datum.integral, Format.write]
  rw [nearest_eq, cut_plain, show (-pe P low (a % SB)).toNat = 0 by omega, Nat.shiftLeft_eq]
  have hup : cutUp way (decide (SB ≤ a)) (pm P (a % SB) * 2 ^ (pe P low (a % SB)).toNat) 0 = false := by
    unfold cutUp; cases way <;> simp [Nat.mod_one]
  rw [hup, Nat.pow_zero, Nat.div_one]
  have := rungOf_scale f (pm P (a % SB)) (pe P low (a % SB)) (pe P low (a % SB)).toNat
  rw [show pe P low (a % SB) - ((pe P low (a % SB)).toNat : Int) = 0 by omega] at this
  show f.word _ (rungOf f (pm P (a % SB) * 2 ^ (pe P low (a % SB)).toNat + 0) 0) = a
  rw [Nat.add_zero, this, rungOf_parts F h1.2, word_sz F ha]

theorem whole_small (ha : a < 2 * SB) (h : kindOf INF (a % SB) = 1 ∨ kindOf INF (a % SB) = 2) {K pl : Nat} (hK : pe P low (a % SB) = -(K : Int)) (hpl : pl = min K 63) (way : Toward) :
    f.write ((f.read a).integral way) = f.word (decide (SB ≤ a)) (rungR f (pm P (a % SB) / 2 ^ pl + (cutUp way (decide (SB ≤ a)) (pm P (a % SB)) pl).toNat) 0 false) := by
  have h1 := read_12 F ha h
  rw [h1.1, rungR_false]
  simp only [Datum.integral, Format.write]
  rw [nearest_eq, cut_plain, show (-pe P low (a % SB)).toNat = K by omega, show (pe P low (a % SB)).toNat = 0 by omega]
  simp only [Nat.shiftLeft_zero]
  have hm : pm P (a % SB) < 4611686018427387904 := by
    have h2 := pm_lt P (a % SB)
    have h3 : (2 : Nat) ^ (P + 1) ≤ 2 ^ 53 := Nat.pow_le_pow_right (by decide) (by have := F.p52; omega)
    have h4 : (2 : Nat) ^ 53 = 9007199254740992 := by decide
    omega
  by_cases hc : K ≤ 63
  · rw [show pl = K by omega]
  · have hp : pl = 63 := by omega
    have := cutUp_far way (decide (SB ≤ a)) _ K hm (by omega)
    rw [hp, this.1, this.2]
end

end Go.Proofs.Ytffceodbadedjaa
