/-
  How two words of one format stand. Condition: the format is that of 32 or of 64 bits.
-/
import Derived.Test.YtffceodbadedjaaWholeMath
import Derived.Test.YtffceodbadedjaaSmall2
set_option linter.unusedSimpArgs false
set_option linter.unusedVariables false
namespace Go.Proofs.Ytffceodbadedjaa
open Ieee

/-- A number with its sign. -/
def sgn (s : Bool) (x : Nat) : Int := if s then -(x : Int) else (x : Int)

theorem compare_congr {x y x' y' : Int} (h1 : x < y ↔ x' < y') (h2 : x = y ↔ x' = y') : compare x y = compare x' y' := by
  show compareOfLessAndEq x y = compareOfLessAndEq x' y'
  unfold compareOfLessAndEq
  simp only [h1, h2]

theorem cmp_lt {x y : Int} (h : x < y) : compare x y = .lt := by
  show compareOfLessAndEq x y = _
  unfold compareOfLessAndEq; rw [if_pos h]
theorem cmp_eq {x y : Int} (h : x = y) : compare x y = .eq := by
  show compareOfLessAndEq x y = _
  unfold compareOfLessAndEq; rw [if_neg (by omega), if_pos h]
theorem cmp_gt {x y : Int} (h : y < x) : compare x y = .gt := by
  show compareOfLessAndEq x y = _
  unfold compareOfLessAndEq; rw [if_neg (by omega), if_neg (by omega)]

theorem order_num (s t : Bool) (m n : Nat) (i j L : Int) (h1 : L ≤ i) (h2 : L ≤ j) :
    Datum.order (.number s m i) (.number t n j) = some (compare (sgn s (m * 2 ^ (i - L).toNat)) (sgn t (n * 2 ^ (j - L).toNat))) := by
  simp only [Datum.order]
  congr 1
  obtain ⟨c, hc⟩ : ∃ c : Nat, c = (min i j - L).toNat := ⟨_, rfl⟩
  have e1 : (i - L).toNat = (i - min i j).toNat + c := by omega
  have e2 : (j - L).toNat = (j - min i j).toNat + c := by omega
  have hp : (0 : Int) < ((2 ^ c : Nat) : Int) := by have := Nat.two_pow_pos c; omega
  have f : ∀ (s : Bool) (m k : Nat), sgn s (m * 2 ^ (k + c)) = signed s m k * ((2 ^ c : Nat) : Int) := fun s m k => by
    rw [signed_shift, Nat.pow_add, ← Nat.mul_assoc]
    unfold sgn
    cases s
    · simp [Int.natCast_mul]
    · simp [Int.natCast_mul, Int.neg_mul]
  rw [e1, e2, f, f]
  exact compare_congr ⟨fun h => Int.mul_lt_mul_of_pos_right h hp, fun h => Int.lt_of_mul_lt_mul_right h (Int.le_of_lt hp)⟩ ⟨fun h => by rw [h], fun h => Int.eq_of_mul_eq_mul_right (by omega) h⟩

/-- The size of a float in units of the smallest one. -/
def unitsOf (P s : Nat) : Nat := pm P s * 2 ^ (s / 2 ^ P - 1)

theorem units_zero (P : Nat) : unitsOf P 0 = 0 := by unfold unitsOf pm; simp

theorem units_lt (P : Nat) {s t : Nat} (h : s < t) : unitsOf P s < unitsOf P t := by
  have hp : 0 < 2 ^ P := Nat.two_pow_pos P
  have hq : s / 2 ^ P ≤ t / 2 ^ P := Nat.div_le_div_right (Nat.le_of_lt h)
  have key : pm P s < pm P t * 2 ^ ((t / 2 ^ P - 1) - (s / 2 ^ P - 1)) := by
    by_cases h0 : (t / 2 ^ P - 1) - (s / 2 ^ P - 1) = 0
    · rw [h0, Nat.pow_zero, Nat.mul_one]
      by_cases h1 : t / 2 ^ P ≤ 1
      · rw [pm_small P t h1, pm_small P s (Nat.le_trans hq h1)]; exact h
      · have he : s / 2 ^ P = t / 2 ^ P := by generalize t / 2 ^ P = q1 at *; generalize s / 2 ^ P = q2 at *; omega
        have d1 := Nat.div_add_mod t (2 ^ P)
        have d2 := Nat.div_add_mod s (2 ^ P)
        rw [he] at d2
        have h2 : ¬ t / 2 ^ P = 0 := fun h => h1 (by rw [h]; decide)
        unfold pm
        rw [if_neg h2, if_neg (by rw [he]; exact h2)]
        omega
    · have h1 := pm_ge P t (by generalize t / 2 ^ P = q1 at *; omega)
      have h2 := pm_lt P s
      have e : (2 : Nat) ^ (P + 1) = 2 ^ P * 2 ^ 1 := Nat.pow_add ..
      have h3 : 2 ^ P * 2 ^ 1 ≤ pm P t * 2 ^ ((t / 2 ^ P - 1) - (s / 2 ^ P - 1)) := Nat.mul_le_mul h1 (Nat.pow_le_pow_right (by decide) (by omega))
      omega
  unfold unitsOf
  have := Nat.mul_lt_mul_of_pos_right key (Nat.two_pow_pos (s / 2 ^ P - 1))
  rw [Nat.mul_assoc, ← Nat.pow_add, show (t / 2 ^ P - 1) - (s / 2 ^ P - 1) + (s / 2 ^ P - 1) = t / 2 ^ P - 1 by generalize t / 2 ^ P = q1 at *; generalize s / 2 ^ P = q2 at *; omega] at this
  exact this

theorem units_iff (P : Nat) {s t : Nat} : unitsOf P s < unitsOf P t ↔ s < t := by
  constructor
  · intro h
    rcases Nat.lt_trichotomy s t with h1 | h1 | h1
    · exact h1
    · subst h1; omega
    · have := units_lt P h1; omega
  · exact units_lt P

theorem units_eq (P : Nat) {s t : Nat} : unitsOf P s = unitsOf P t ↔ s = t := by
  constructor
  · intro h
    rcases Nat.lt_trichotomy s t with h1 | h1 | h1
    · have := units_lt P h1; omega
    · exact h1
    · have := units_lt P h1; omega
  · intro h; rw [h]

theorem units_pos (P : Nat) {s : Nat} : 0 < unitsOf P s ↔ 0 < s := by
  have := units_iff P (s := 0) (t := s)
  rw [units_zero] at this
  exact this

theorem compare_sgn (P : Nat) (s t : Bool) (x y : Nat) : compare (sgn s (unitsOf P x)) (sgn t (unitsOf P y)) = compare (sgn s x) (sgn t y) := by
  have h1 := units_iff P (s := x) (t := y)
  have h2 := units_iff P (s := y) (t := x)
  have h3 := units_pos P (s := x)
  have h4 := units_pos P (s := y)
  apply compare_congr
  · unfold sgn; cases s <;> cases t <;> simp <;> omega
  · unfold sgn; cases s <;> cases t <;> simp <;> omega

section
variable {f : Format} {SB INF P : Nat} {low : Int} (F : Fmt f SB INF P low) {a b : Nat}
include F

omit F in
theorem rank_sgn : rankOf SB a = sgn (decide (SB ≤ a)) (a % SB) := by
  unfold rankOf sgn
  by_cases h : SB ≤ a <;> simp [h]

theorem order_word (ha : a < 2 * SB) (hb : b < 2 * SB) (na : a % SB ≤ INF) (nb : b % SB ≤ INF) : f.order a b = some (compare (rankOf SB a) (rankOf SB b)) := by
  have h0 := F.inf0
  unfold Format.order
  rw [rank_sgn, rank_sgn]
  by_cases h1 : a % SB = INF
  · have k1 : kindOf INF (a % SB) = 3 := (kind3 h0).2 h1
    rw [rk3 F ha k1]
    by_cases h2 : b % SB = INF
    · have k2 : kindOf INF (b % SB) = 3 := (kind3 h0).2 h2
      rw [rk3 F hb k2, h1, h2]
      simp only [Datum.order]
      congr 1
      cases decide (SB ≤ a) <;> cases decide (SB ≤ b)
      · exact (cmp_eq rfl).symm
      · exact (cmp_gt (by show -(INF : Int) < (INF : Int); omega)).symm
      · exact (cmp_lt (by show -(INF : Int) < (INF : Int); omega)).symm
      · exact (cmp_eq rfl).symm
    · rw [read_fin F.sb F.fr F.lp hb (by rw [F.inf]; omega), h1]
      simp only [Datum.order]
      congr 1
      cases decide (SB ≤ a)
      · exact (cmp_gt (by unfold sgn; cases decide (SB ≤ b) <;> simp <;> omega)).symm
      · exact (cmp_lt (by unfold sgn; cases decide (SB ≤ b) <;> simp <;> omega)).symm
  · rw [read_fin F.sb F.fr F.lp ha (by rw [F.inf]; omega)]
    by_cases h2 : b % SB = INF
    · have k2 : kindOf INF (b % SB) = 3 := (kind3 h0).2 h2
      rw [rk3 F hb k2, h2]
      simp only [Datum.order]
      congr 1
      cases decide (SB ≤ b)
      · exact (cmp_lt (by unfold sgn; cases decide (SB ≤ a) <;> simp <;> omega)).symm
      · exact (cmp_gt (by unfold sgn; cases decide (SB ≤ a) <;> simp <;> omega)).symm
    · rw [read_fin F.sb F.fr F.lp hb (by rw [F.inf]; omega)]
      rw [order_num _ _ _ _ _ _ low (by rw [pe_eq]; omega) (by rw [pe_eq]; omega)]
      rw [show (pe P low (a % SB) - low).toNat = a % SB / 2 ^ P - 1 by rw [pe_eq]; generalize a % SB / 2 ^ P = q; omega]
      rw [show (pe P low (b % SB) - low).toNat = b % SB / 2 ^ P - 1 by rw [pe_eq]; generalize b % SB / 2 ^ P = q; omega]
      exact congrArg some (compare_sgn P _ _ _ _)

theorem order_nan (h : INF < a % SB ∨ INF < b % SB) : f.order a b = none := by
  unfold Format.order
  rcases h with h | h
  · obtain ⟨s, t, e⟩ := read_nan F.sb F.bi (by rw [F.inf]; exact h)
    rw [e]; rfl
  · obtain ⟨s, t, e⟩ := read_nan F.sb F.bi (by rw [F.inf]; exact h)
    rw [e]; cases f.read a <;> rfl
end

end Go.Proofs.Ytffceodbadedjaa
