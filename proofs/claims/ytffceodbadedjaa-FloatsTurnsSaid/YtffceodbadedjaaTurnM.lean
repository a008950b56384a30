/-
  What the law on turning leans on: products turned; whole numbers stand exactly; the floor is not above a number, the ceiling not below. Condition: the format is that of 32 or of 64 bits.
-/
import Derived.Test.YtffceodbadedjaaAddMath
import Derived.Test.YtffceodbadedjaaOrderM
import Derived.Test.YtffceodbadedjaaWholeMath
set_option linter.unusedSimpArgs false
set_option linter.unusedVariables false
namespace Go.Proofs.Ytffceodbadedjaa
open Ieee

theorem product_comm (d e : Datum) : d.product e = e.product d := by
  cases d with
  | nan s t => cases e <;> rfl
  | infinity s =>
    cases e with
    | nan => rfl
    | infinity t => show some (Datum.infinity (s ^^ t)) = some (Datum.infinity (t ^^ s)); rw [Bool.xor_comm]
    | number t n j => rfl
  | number s m i =>
    cases e with
    | nan => rfl
    | infinity t => rfl
    | number t n j => show some (Datum.number (s ^^ t) (m * n) (i + j)) = some (Datum.number (t ^^ s) (n * m) (j + i)); rw [Bool.xor_comm, Nat.mul_comm, Int.add_comm]
theorem mul_comm_w (f : Format) (a b : Nat) : f.mul a b = f.mul b a := by
  unfold Format.mul
  rw [product_comm]

theorem sgn_pos {x y : Nat} (h : x ≤ y) : sgn false x ≤ sgn false y := Int.ofNat_le.2 h
theorem sgn_neg {x y : Nat} (h : x ≤ y) : sgn true y ≤ sgn true x := Int.neg_le_neg (Int.ofNat_le.2 h)
theorem opp_opp {SB a : Nat} (ha : a < 2 * SB) : oppN SB (oppN SB a) = a := by
  unfold oppN
  by_cases h : SB ≤ a
  · rw [if_pos h, if_neg (by omega)]; omega
  · rw [if_neg h, if_pos (by omega)]; omega
theorem sign_back {SB a : Nat} (ha : a < 2 * SB) : a % SB + (if SB ≤ a then SB else 0) = a := by
  by_cases h : SB ≤ a
  · rw [if_pos h, Nat.mod_eq_sub_mod h, Nat.mod_eq_of_lt (by omega)]; omega
  · rw [if_neg h, Nat.mod_eq_of_lt (by omega)]; omega

section
variable {f : Format} {SB INF P : Nat} {low : Int} (F : Fmt f SB INF P low) {a : Nat}
include F

theorem word_rank (hIS : INF < SB) (s : Bool) {r : Nat} (hr : r ≤ INF) : rankOf SB (f.word s r) = sgn s r ∧ f.word s r % SB = r ∧ f.word s r < 2 * SB := by
  have e : f.word s r = r + (if s then SB else 0) := by
    unfold Format.word
    rw [F.sb]
    cases s <;> simp <;> omega
  have e2 : (r + SB) % SB = r := by rw [Nat.add_mod_right, Nat.mod_eq_of_lt (by omega)]
  rw [e]
  cases s
  · simp only [Bool.false_eq_true, if_false, Nat.add_zero]
    refine ⟨?_, Nat.mod_eq_of_lt (by omega), by omega⟩
    unfold rankOf sgn
    rw [if_neg (by omega), Nat.mod_eq_of_lt (by omega)]
    rfl
  · simp only [if_true]
    refine ⟨?_, e2, by omega⟩
    unfold rankOf sgn
    rw [if_pos (by omega), e2]
    rfl

theorem rung_exact {M : Nat} (hM : M < 2 ^ (P + 1)) (hlow : low ≤ -(P : Int)) (hbig : ((-low).toNat + 2) * 2 ^ P ≤ INF) :
    rungOf f M 0 < INF ∧ unitsOf P (rungOf f M 0) = M * 2 ^ (-low).toNat := by
  have hp : 0 < 2 ^ P := Nat.two_pow_pos P
  by_cases h0 : M = 0
  · subst h0
    refine ⟨by unfold rungOf; rw [if_pos rfl]; exact F.inf0, ?_⟩
    unfold rungOf
    rw [if_pos rfl, units_zero, Nat.zero_mul]
  have hl : M.log2 < P + 1 := log2_lt_of h0 hM
  obtain ⟨l, hle⟩ : ∃ l, l = M.log2 := ⟨_, rfl⟩
  have hlo := Nat.log2_self_le h0
  have hhi := @Nat.lt_log2_self M
  rw [← hle] at hl hlo hhi
  have hL : lastP f M 0 = (l : Int) - P := by
    unfold lastP
    rw [F.fr, F.lp, ← hle]
    omega
  have hn : rneI M ((l : Int) - P - 0) = M * 2 ^ (P - l) := by
    unfold rneI
    by_cases h : l = P
    · rw [if_pos (by omega), show ((l : Int) - P - 0).toNat = 0 by omega, rne_zero, h, Nat.sub_self]; simp
    · rw [if_neg (by omega), show (-((l : Int) - P - 0)).toNat = P - l by omega]
  obtain ⟨t, ht⟩ : ∃ t, t = M * 2 ^ (P - l) := ⟨_, rfl⟩
  obtain ⟨q, hq⟩ : ∃ q, q = ((l : Int) - P - low).toNat := ⟨_, rfl⟩
  have ht1 : 2 ^ P ≤ t := by
    have : 2 ^ l * 2 ^ (P - l) ≤ M * 2 ^ (P - l) := Nat.mul_le_mul_right _ hlo
    rw [← Nat.pow_add, show l + (P - l) = P by omega] at this
    rw [ht]; exact this
  have ht2 : t < 2 * 2 ^ P := by
    have : M * 2 ^ (P - l) < 2 ^ (l + 1) * 2 ^ (P - l) := Nat.mul_lt_mul_of_pos_right hhi (Nat.two_pow_pos _)
    rw [← Nat.pow_add, show l + 1 + (P - l) = P + 1 by omega, Nat.pow_succ] at this
    rw [ht]; omega
  have hr : q * 2 ^ P + t < INF := by
    have : (q + 2) * 2 ^ P ≤ ((-low).toNat + 2) * 2 ^ P := Nat.mul_le_mul_right _ (by omega)
    rw [Nat.add_mul] at this
    omega
  have e : rungOf f M 0 = q * 2 ^ P + t := by
    unfold rungOf
    rw [if_neg h0, hL, F.lp, F.fr, F.inf, hn, ← ht, ← hq]
    exact Nat.min_eq_left (by omega)
  rw [e]
  refine ⟨hr, ?_⟩
  have hd : (q * 2 ^ P + t) / 2 ^ P = q + 1 := by
    rw [Nat.mul_comm, Nat.mul_add_div hp]
    have : t / 2 ^ P = 1 := by
      rw [Nat.div_eq_iff hp]
      omega
    rw [this]
  have hm : (q * 2 ^ P + t) % 2 ^ P = t - 2 ^ P := by
    have := Nat.div_add_mod (q * 2 ^ P + t) (2 ^ P)
    rw [hd, Nat.mul_add, Nat.mul_one, Nat.mul_comm] at this
    omega
  unfold unitsOf pm
  rw [hd, if_neg (by omega), hm, Nat.add_sub_cancel, show t - 2 ^ P + 2 ^ P = t by omega, ht, Nat.mul_assoc, ← Nat.pow_add, show P - l + q = (-low).toNat by omega]

/-- A whole number's rung against a float's own. -/
theorem rung_units (hlow : low ≤ -(P : Int)) (hbig : ((-low).toNat + 2) * 2 ^ P ≤ INF) {s K M : Nat} (hs : s < INF) (hK : pe P low s = -(K : Int)) (hM : M < 2 ^ (P + 1)) :
    (M * 2 ^ K ≤ pm P s → rungOf f M 0 ≤ s) ∧ (pm P s ≤ M * 2 ^ K → s ≤ rungOf f M 0) := by
  obtain ⟨_, hu⟩ := rung_exact F hM hlow hbig
  have he := pe_eq P low s
  have hj : (-low).toNat = K + (s / 2 ^ P - 1) := by rw [hK] at he; generalize s / 2 ^ P - 1 = j at *; omega
  have h1 : unitsOf P (rungOf f M 0) = M * 2 ^ K * 2 ^ (s / 2 ^ P - 1) := by rw [hu, hj, Nat.pow_add, Nat.mul_assoc]
  have h2 : unitsOf P s = pm P s * 2 ^ (s / 2 ^ P - 1) := rfl
  refine ⟨fun h => ?_, fun h => ?_⟩
  · have h3 : unitsOf P (rungOf f M 0) ≤ unitsOf P s := by rw [h1, h2]; exact Nat.mul_le_mul_right _ h
    rcases Nat.lt_or_ge s (rungOf f M 0) with h4 | h4
    · have := units_lt P h4; omega
    · exact h4
  · have h3 : unitsOf P s ≤ unitsOf P (rungOf f M 0) := by rw [h1, h2]; exact Nat.mul_le_mul_right _ h
    rcases Nat.lt_or_ge (rungOf f M 0) s with h4 | h4
    · have := units_lt P h4; omega
    · exact h4

/-- The floor is not above a number, the ceiling not below; neither is a NaN. -/
theorem whole_stands (hIS : INF < SB) (hlow : low ≤ -(P : Int)) (hbig : ((-low).toNat + 2) * 2 ^ P ≤ INF) (ha : a < 2 * SB) (hk : a % SB ≤ INF) :
    (rankOf SB (f.write ((f.read a).integral .down)) ≤ rankOf SB a ∧ f.write ((f.read a).integral .down) % SB ≤ INF ∧ f.write ((f.read a).integral .down) < 2 * SB) ∧
    (rankOf SB a ≤ rankOf SB (f.write ((f.read a).integral .up)) ∧ f.write ((f.read a).integral .up) % SB ≤ INF ∧ f.write ((f.read a).integral .up) < 2 * SB) := by
  rcases kind_le hk with h | h | h
  · exact aux (.inl h)
  · exact aux (.inr h)
  · rw [whole_inf F ha h, whole_inf F ha h]
    exact ⟨⟨Int.le_refl _, hk, ha⟩, Int.le_refl _, hk, ha⟩
where
  aux (h : kindOf INF (a % SB) = 1 ∨ kindOf INF (a % SB) = 2) : (rankOf SB (f.write ((f.read a).integral .down)) ≤ rankOf SB a ∧ f.write ((f.read a).integral .down) % SB ≤ INF ∧ f.write ((f.read a).integral .down) < 2 * SB) ∧
    (rankOf SB a ≤ rankOf SB (f.write ((f.read a).integral .up)) ∧ f.write ((f.read a).integral .up) % SB ≤ INF ∧ f.write ((f.read a).integral .up) < 2 * SB) := by
    by_cases he : 0 ≤ pe P low (a % SB)
    · rw [whole_big F ha h he, whole_big F ha h he]
      exact ⟨⟨Int.le_refl _, hk, ha⟩, Int.le_refl _, hk, ha⟩
    obtain ⟨K, hK⟩ : ∃ K : Nat, pe P low (a % SB) = -(K : Int) := ⟨(-pe P low (a % SB)).toNat, by omega⟩
    have hK1 : 1 ≤ K := by omega
    have h1 := read_12 F ha h
    have hw : ∀ way : Toward, f.write ((f.read a).integral way) = f.word (decide (SB ≤ a)) (rungOf f (way.cut (decide (SB ≤ a)) (pm P (a % SB)) K) 0) := fun way => by
      rw [h1.1]
      simp only [Datum.integral, Format.write]
      rw [nearest_eq, hK, show (-(K : Int)).toNat = 0 by omega, show (-(-(K : Int))).toNat = K by omega, Nat.shiftLeft_zero]
    obtain ⟨n, hn⟩ : ∃ n, n = pm P (a % SB) := ⟨_, rfl⟩
    have hnl : n < 2 ^ (P + 1) := by rw [hn]; exact pm_lt _ _
    have hkp : 0 < 2 ^ K := Nat.two_pow_pos K
    have hdm := Nat.div_add_mod n (2 ^ K)
    have hml := Nat.mod_lt n hkp
    have hhalf : n / 2 ^ K < 2 ^ P := by
      have h2 : (2 : Nat) ^ 1 ≤ 2 ^ K := Nat.pow_le_pow_right (by decide) hK1
      have h3 : n / 2 ^ K ≤ n / 2 := Nat.div_le_div_left (by simpa using h2) (by decide)
      rw [Nat.pow_succ] at hnl
      omega
    have hM0 : n / 2 ^ K < 2 ^ (P + 1) := by rw [Nat.pow_succ]; omega
    have hM1 : n / 2 ^ K + 1 < 2 ^ (P + 1) := by
      have : 1 ≤ 2 ^ P := Nat.two_pow_pos P
      rw [Nat.pow_succ]
      by_cases h : 2 ^ P = 1
      · omega
      · omega
    have below : rungOf f (n / 2 ^ K) 0 ≤ a % SB := (rung_units F hlow hbig h1.2 hK hM0).1 (by rw [← hn, Nat.mul_comm]; omega)
    have above : n % 2 ^ K ≠ 0 → a % SB ≤ rungOf f (n / 2 ^ K + 1) 0 := fun _ => (rung_units F hlow hbig h1.2 hK hM1).2 (by rw [← hn, Nat.add_mul, Nat.one_mul, Nat.mul_comm]; omega)
    have exact_ : n % 2 ^ K = 0 → a % SB ≤ rungOf f (n / 2 ^ K) 0 := fun h0 => (rung_units F hlow hbig h1.2 hK hM0).2 (by rw [← hn, Nat.mul_comm]; omega)
    have i0 := (rung_exact F hM0 hlow hbig).1
    have i1 := (rung_exact F hM1 hlow hbig).1
    rw [hw, hw, cut_plain, cut_plain, ← hn, rank_sgn (SB := SB) (a := a)]
    cases hs : decide (SB ≤ a)
    · have c1 : cutUp .down false n K = false := rfl
      have c2 : cutUp .up false n K = (n % 2 ^ K != 0) := by unfold cutUp; simp
      rw [c1, c2]
      simp only [Bool.toNat_false, Nat.add_zero]
      have w0 := word_rank F hIS false (Nat.le_of_lt i0)
      refine ⟨⟨by rw [w0.1]; exact sgn_pos (below), by rw [w0.2.1]; omega, w0.2.2⟩, ?_⟩
      by_cases hz : n % 2 ^ K = 0
      · rw [hz]
        simp only [bne_self_eq_false, Bool.toNat_false, Nat.add_zero]
        exact ⟨by rw [w0.1]; exact sgn_pos (exact_ hz), by rw [w0.2.1]; omega, w0.2.2⟩
      · have hb : (n % 2 ^ K != 0) = true := by simp [hz]
        have w1 := word_rank F hIS false (Nat.le_of_lt i1)
        rw [hb]
        simp only [Bool.toNat_true]
        exact ⟨by rw [w1.1]; exact sgn_pos (above hz), by rw [w1.2.1]; omega, w1.2.2⟩
    · have c1 : cutUp .up true n K = false := rfl
      have c2 : cutUp .down true n K = (n % 2 ^ K != 0) := by unfold cutUp; simp
      rw [c1, c2]
      simp only [Bool.toNat_false, Nat.add_zero]
      have w0 := word_rank F hIS true (Nat.le_of_lt i0)
      refine ⟨?_, ⟨by rw [w0.1]; exact sgn_neg (below), by rw [w0.2.1]; omega, w0.2.2⟩⟩
      by_cases hz : n % 2 ^ K = 0
      · rw [hz]
        simp only [bne_self_eq_false, Bool.toNat_false, Nat.add_zero]
        exact ⟨by rw [w0.1]; exact sgn_neg (exact_ hz), by rw [w0.2.1]; omega, w0.2.2⟩
      · have hb : (n % 2 ^ K != 0) = true := by simp [hz]
        have w1 := word_rank F hIS true (Nat.le_of_lt i1)
        rw [hb]
        simp only [Bool.toNat_true]
        exact ⟨by rw [w1.1]; exact sgn_neg (above hz), by rw [w1.2.1]; omega, w1.2.2⟩
end
end Go.Proofs.Ytffceodbadedjaa
