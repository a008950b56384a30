/-
  The contract of conv's Trunc in plain numbers. Condition: the words are below 2^64.
-/
import Derived.Test.YtnpamiofhalimaaCTrunc
import Derived.Test.YtnpamiofhalimaaOpMath
set_option linter.unusedSimpArgs false
set_option linter.unusedVariables false
namespace Go.Proofs.Ytnpamiofhalimaa
open Go.RowKit

/-- A number times a power of 2, rounded down. -/
def mag (m : Nat) (e : Int) : Nat := if e < 0 then m / 2 ^ (-e).toNat else m * 2 ^ e.toNat

/-- A size with a sign, as an integer of n bits: its word, and the error. -/
def truncM (n : Nat) (s sat neg : Bool) (M : Nat) : Nat × Int :=
  if M ≤ bnd n s neg then ((if neg then 2 ^ n - M else M) % 2 ^ n, 0) else if sat then ((if neg then 2 ^ n - bnd n s neg else bnd n s neg) % 2 ^ n, 0) else (0, 42)

/-- The number and the power of 2 of a word that is no NaN: an infinity is 2 to the power of 1024. -/
def wm (SB INF P c : Nat) : Nat := if c % SB = INF then 1 else pm P (c % SB)
def we (SB INF P : Nat) (low : Int) (c : Nat) : Int := if c % SB = INF then 1024 else pe P low (c % SB)

/-- A word as an integer of n bits. -/
def truncW (SB INF P : Nat) (low : Int) (n : Nat) (s sat : Bool) (c : Nat) : Nat × Int :=
  if INF < c % SB then (0, if sat then 0 else 43) else truncM n s sat (decide (SB ≤ c)) (mag (wm SB INF P c) (we SB INF P low c))

theorem wrap_neg (q : Nat) (h : q < 18446744073709551616) : IntKind.u64.wrap (-(q : Int)) = (((18446744073709551616 - q) % 18446744073709551616 : Nat) : Int) := by
  rw [IntKind.wrap_u64]; omega

theorem not_fit (x d : Nat) (h : 18446744073709551616 ≤ x * d) (hd : 0 < d) : ¬ x * d % 18446744073709551616 / d = x := by
  intro hh
  have h1 := Nat.div_mul_le_self (x * d % 18446744073709551616) d
  rw [hh] at h1
  have h2 := Nat.mod_lt (x * d) (show 0 < 18446744073709551616 by decide)
  omega

/-- What whole says: the number, where it fits; and that it doesn't fit where it doesn't. -/
theorem whole_any (m : Nat) (hm : m < 18446744073709551616) (e : Int) (h0 : -4000 ≤ e) (h1 : e ≤ 4000) :
    ∃ (q : Nat) (f : Bool), (∀ W, Hid (Say 24 #[.int .u64 (m : Int), .int .i64 e] W (.tuple #[.int .u64 (q : Int), .bool f]))) ∧ q < 18446744073709551616 ∧ (f = true → q = mag m e) ∧ (f = false → 18446744073709551616 ≤ mag m e) := by
  by_cases hn : e < 0
  · obtain ⟨k, hk⟩ : ∃ k : Nat, e = -(k : Int) := ⟨(-e).toNat, by omega⟩
    subst hk
    refine ⟨m / 2 ^ k, true, fun W => hid (whole_neg m k hm (by omega) (by omega) W), Nat.lt_of_le_of_lt (Nat.div_le_self _ _) hm, fun _ => ?_, fun h => by cases h⟩
    unfold mag
    rw [if_pos hn, Int.neg_neg, Int.toNat_natCast]
  · obtain ⟨k, hk⟩ : ∃ k : Nat, e = (k : Int) := ⟨e.toNat, by omega⟩
    subst hk
    have hM : mag m (k : Int) = m * 2 ^ k := by unfold mag; rw [if_neg hn, Int.toNat_natCast]
    refine ⟨m * 2 ^ k % 18446744073709551616, _, fun W => hid (whole_pos m k hm (by omega) W), Nat.mod_lt _ (by decide), fun h => ?_, fun h => ?_⟩
    · rw [hM]
      have h2 := of_decide_eq_true h
      rcases Nat.lt_or_ge (m * 2 ^ k) 18446744073709551616 with h3 | h3
      · exact Nat.mod_eq_of_lt h3
      · exact absurd h2 (not_fit m (2 ^ k) h3 (Nat.two_pow_pos k))
    · rw [hM]
      have h2 := of_decide_eq_false h
      rcases Nat.lt_or_ge (m * 2 ^ k) 18446744073709551616 with h3 | h3
      · exact absurd (by rw [Nat.mod_eq_of_lt h3]; exact Nat.mul_div_cancel _ (Nat.two_pow_pos k)) h2
      · exact h3

theorem kind_ne (INF s : Nat) : kindOf INF s ≠ 0 := by
  unfold kindOf; split
  · decide
  · split
    · decide
    · split <;> decide

theorem kind_4 {INF s : Nat} (h : INF < s) : kindOf INF s = 4 := by
  unfold kindOf; rw [if_neg (by omega), if_neg (by omega), if_neg (by omega)]
theorem kind_not4 {INF s : Nat} (h : s ≤ INF) : kindOf INF s ≠ 4 := by
  unfold kindOf; split
  · decide
  · split
    · decide
    · rw [if_pos (by omega)]; decide

theorem bnd_32 (s neg : Bool) : bnd 32 s neg < 4294967296 ∧ (neg = true → bnd 32 s neg ≤ 2147483648) := by
  cases s <;> cases neg <;> decide

theorem cutneg_32 (q : Nat) (h : q ≤ 2147483648) : (18446744073709551616 - q) % 18446744073709551616 % 4294967296 = (4294967296 - q) % 4294967296 := by omega

theorem Trunc_32_any (F : Int) (s sat neg : Bool) (a k m : Nat) (e : Int) (hm : m < 18446744073709551616) (h0 : -4000 ≤ e) (h1 : e ≤ 4000) (hk0 : ((k : Int) == 0) = false) (hk4 : ((k : Int) == 4) = false)
    (HK : ∀ W, Hid (Say 20 #[.int .i64 F, .int .u64 a] W (.int .i64 (k : Int))))
    (HP : ∀ W, Hid (Say 23 #[.int .i64 F, .int .u64 a] W (.tuple #[.bool neg, .int .u64 (m : Int), .int .i64 e]))) (w : World) :
    Say 10 #[.int .i64 F, .int .i64 32, .bool s, .bool sat, .int .u64 a] w (.tuple #[.int .u64 ((truncM 32 s sat neg (mag m e)).1 : Int), .int .i64 (truncM 32 s sat neg (mag m e)).2]) := by
  obtain ⟨q, f, HW, hq64, ht, hf⟩ := whole_any m hm e h0 h1
  obtain ⟨hb, hbn⟩ := bnd_32 s neg
  generalize mag m e = M at *
  by_cases hin : M ≤ bnd 32 s neg
  · have hff : f = true := by
      cases f with
      | true => rfl
      | false => have := hf rfl; omega
    subst hff
    have hqM := ht rfl
    subst hqM
    have := Trunc_32_in F s sat neg a k m q _ e hk0 hk4 HK HP HW hin (wrap_neg q hq64) hq64 (Nat.mod_lt _ (by decide)) w
    have hv : truncM 32 s sat neg q = ((if neg then (18446744073709551616 - q) % 18446744073709551616 else q) % 4294967296, 0) := by
      unfold truncM
      rw [if_pos hin]
      cases neg with
      | false => rfl
      | true =>
        have := cutneg_32 q (Nat.le_trans hin (hbn rfl))
        rw [if_pos rfl, if_pos rfl, this]
    rw [hv]
    exact this
  · have hor : f = false ∨ bnd 32 s neg < q := by
      cases f with
      | true => have := ht rfl; exact .inr (by omega)
      | false => exact .inl rfl
    cases sat with
    | false =>
      have := Trunc_32_over F s neg f a k m q e hk0 hk4 HK HP HW hor w
      have hv : truncM 32 s false neg M = (0, 42) := by unfold truncM; rw [if_neg hin, if_neg (by decide)]
      rw [hv]
      exact this
    | true =>
      have hb64 : bnd 32 s neg < 18446744073709551616 := by omega
      have := Trunc_32_held F s neg f a k m q _ e hk0 hk4 HK HP HW hor (wrap_neg _ hb64) hb64 (Nat.mod_lt _ (by decide)) w
      have hv : truncM 32 s true neg M = ((if neg then (18446744073709551616 - bnd 32 s neg) % 18446744073709551616 else bnd 32 s neg) % 4294967296, 0) := by
        unfold truncM
        rw [if_neg hin, if_pos rfl]
        cases neg with
        | false => rfl
        | true =>
          have := cutneg_32 (bnd 32 s true) (hbn rfl)
          rw [if_pos rfl, if_pos rfl, this]
      rw [hv]
      exact this

theorem bnd_64 (s neg : Bool) : bnd 64 s neg < 18446744073709551616 ∧ (neg = true → bnd 64 s neg ≤ 9223372036854775808) := by
  cases s <;> cases neg <;> decide

theorem cutneg_64 (q : Nat) (h : q ≤ 9223372036854775808) : (18446744073709551616 - q) % 18446744073709551616 % 18446744073709551616 = (18446744073709551616 - q) % 18446744073709551616 := by omega

theorem Trunc_64_any (F : Int) (s sat neg : Bool) (a k m : Nat) (e : Int) (hm : m < 18446744073709551616) (h0 : -4000 ≤ e) (h1 : e ≤ 4000) (hk0 : ((k : Int) == 0) = false) (hk4 : ((k : Int) == 4) = false)
    (HK : ∀ W, Hid (Say 20 #[.int .i64 F, .int .u64 a] W (.int .i64 (k : Int))))
    (HP : ∀ W, Hid (Say 23 #[.int .i64 F, .int .u64 a] W (.tuple #[.bool neg, .int .u64 (m : Int), .int .i64 e]))) (w : World) :
    Say 10 #[.int .i64 F, .int .i64 64, .bool s, .bool sat, .int .u64 a] w (.tuple #[.int .u64 ((truncM 64 s sat neg (mag m e)).1 : Int), .int .i64 (truncM 64 s sat neg (mag m e)).2]) := by
  obtain ⟨q, f, HW, hq64, ht, hf⟩ := whole_any m hm e h0 h1
  obtain ⟨hb, hbn⟩ := bnd_64 s neg
  generalize mag m e = M at *
  by_cases hin : M ≤ bnd 64 s neg
  · have hff : f = true := by
      cases f with
      | true => rfl
      | false => have := hf rfl; omega
    subst hff
    have hqM := ht rfl
    subst hqM
    have := Trunc_64_in F s sat neg a k m q _ e hk0 hk4 HK HP HW hin (wrap_neg q hq64) hq64 (Nat.mod_lt _ (by decide)) w
    have hv : truncM 64 s sat neg q = ((if neg then (18446744073709551616 - q) % 18446744073709551616 else q) % 18446744073709551616, 0) := by
      unfold truncM
      rw [if_pos hin]
      cases neg with
      | false => rfl
      | true =>
        have := cutneg_64 q (Nat.le_trans hin (hbn rfl))
        rw [if_pos rfl, if_pos rfl, this]
    rw [hv]
    exact this
  · have hor : f = false ∨ bnd 64 s neg < q := by
      cases f with
      | true => have := ht rfl; exact .inr (by omega)
      | false => exact .inl rfl
    cases sat with
    | false =>
      have := Trunc_64_over F s neg f a k m q e hk0 hk4 HK HP HW hor w
      have hv : truncM 64 s false neg M = (0, 42) := by unfold truncM; rw [if_neg hin, if_neg (by decide)]
      rw [hv]
      exact this
    | true =>
      have hb64 : bnd 64 s neg < 18446744073709551616 := by omega
      have := Trunc_64_held F s neg f a k m q _ e hk0 hk4 HK HP HW hor (wrap_neg _ hb64) hb64 (Nat.mod_lt _ (by decide)) w
      have hv : truncM 64 s true neg M = ((if neg then (18446744073709551616 - bnd 64 s neg) % 18446744073709551616 else bnd 64 s neg) % 18446744073709551616, 0) := by
        unfold truncM
        rw [if_neg hin, if_pos rfl]
        cases neg with
        | false => rfl
        | true =>
          have := cutneg_64 (bnd 64 s true) (hbn rfl)
          rw [if_pos rfl, if_pos rfl, this]
      rw [hv]
      exact this

theorem Trunc_32_32 (s sat : Bool) (a : Nat) (ha : a < 18446744073709551616) (w : World) :
    Say 10 #[.int .i64 32, .int .i64 32, .bool s, .bool sat, .int .u64 a] w (.tuple #[.int .u64 ((truncW 2147483648 2139095040 23 (-149) 32 s sat (a % 4294967296)).1 : Int), .int .i64 (truncW 2147483648 2139095040 23 (-149) 32 s sat (a % 4294967296)).2]) := by
  have HK := fun W => hid (Kind_32 a ha W)
  by_cases hn : 2139095040 < a % 4294967296 % 2147483648
  · rw [kind_4 hn] at HK
    have hv : truncW 2147483648 2139095040 23 (-149) 32 s sat (a % 4294967296) = (0, if sat then 0 else 43) := by unfold truncW; rw [if_pos hn]
    rw [hv]
    exact Trunc_32_nan 32 s sat a HK w
  · have hv : truncW 2147483648 2139095040 23 (-149) 32 s sat (a % 4294967296) = truncM 32 s sat (decide (2147483648 ≤ a % 4294967296)) (mag (wm 2147483648 2139095040 23 (a % 4294967296)) (we 2147483648 2139095040 23 (-149) (a % 4294967296))) := by unfold truncW; rw [if_neg hn]
    rw [hv]
    have k0 : ((kindOf 2139095040 (a % 4294967296 % 2147483648) : Int) == 0) = false := by
      have := kind_ne 2139095040 (a % 4294967296 % 2147483648)
      exact beq_eq_false_iff_ne.2 (by omega)
    have k4 : ((kindOf 2139095040 (a % 4294967296 % 2147483648) : Int) == 4) = false := by
      have := kind_not4 (Nat.le_of_not_lt hn)
      exact beq_eq_false_iff_ne.2 (by omega)
    by_cases hi : a % 4294967296 % 2147483648 = 2139095040
    · rw [show wm 2147483648 2139095040 23 (a % 4294967296) = 1 by unfold wm; rw [if_pos hi], show we 2147483648 2139095040 23 (-149) (a % 4294967296) = 1024 by unfold we; rw [if_pos hi]]
      exact Trunc_32_any 32 s sat _ a _ 1 1024 (by decide) (by decide) (by decide) k0 k4 HK (fun W => hid (cparts_32_inf a ha hi W)) w
    · rw [show wm 2147483648 2139095040 23 (a % 4294967296) = pm 23 (a % 4294967296 % 2147483648) by unfold wm; rw [if_neg hi], show we 2147483648 2139095040 23 (-149) (a % 4294967296) = pe 23 (-149) (a % 4294967296 % 2147483648) by unfold we; rw [if_neg hi]]
      have hf : a % 4294967296 % 2147483648 < 2139095040 := by omega
      have hm := pm_lt 23 (a % 4294967296 % 2147483648)
      have he := pe_eq 23 (-149) (a % 4294967296 % 2147483648)
      have hq : a % 4294967296 % 2147483648 / 2 ^ 23 ≤ 2047 := by show a % 4294967296 % 2147483648 / 8388608 ≤ 2047; omega
      have HP := fun W => hid (cparts_32 a ha hf W)
      generalize pm 23 (a % 4294967296 % 2147483648) = m at *
      generalize a % 4294967296 % 2147483648 / 2 ^ 23 = q at *
      generalize pe 23 (-149) (a % 4294967296 % 2147483648) = e at *
      have hm2 : m < 18446744073709551616 := Nat.lt_trans hm (by decide)
      have he1 : -4000 ≤ e := by clear hm2 hm HP HK k0 k4; omega
      have he2 : e ≤ 4000 := by clear hm2 hm HP HK k0 k4; omega
      exact Trunc_32_any 32 s sat _ a _ m e hm2 he1 he2 k0 k4 HK HP w

theorem Trunc_32_64 (s sat : Bool) (a : Nat) (ha : a < 18446744073709551616) (w : World) :
    Say 10 #[.int .i64 32, .int .i64 64, .bool s, .bool sat, .int .u64 a] w (.tuple #[.int .u64 ((truncW 2147483648 2139095040 23 (-149) 64 s sat (a % 4294967296)).1 : Int), .int .i64 (truncW 2147483648 2139095040 23 (-149) 64 s sat (a % 4294967296)).2]) := by
  have HK := fun W => hid (Kind_32 a ha W)
  by_cases hn : 2139095040 < a % 4294967296 % 2147483648
  · rw [kind_4 hn] at HK
    have hv : truncW 2147483648 2139095040 23 (-149) 64 s sat (a % 4294967296) = (0, if sat then 0 else 43) := by unfold truncW; rw [if_pos hn]
    rw [hv]
    exact Trunc_64_nan 32 s sat a HK w
  · have hv : truncW 2147483648 2139095040 23 (-149) 64 s sat (a % 4294967296) = truncM 64 s sat (decide (2147483648 ≤ a % 4294967296)) (mag (wm 2147483648 2139095040 23 (a % 4294967296)) (we 2147483648 2139095040 23 (-149) (a % 4294967296))) := by unfold truncW; rw [if_neg hn]
    rw [hv]
    have k0 : ((kindOf 2139095040 (a % 4294967296 % 2147483648) : Int) == 0) = false := by
      have := kind_ne 2139095040 (a % 4294967296 % 2147483648)
      exact beq_eq_false_iff_ne.2 (by omega)
    have k4 : ((kindOf 2139095040 (a % 4294967296 % 2147483648) : Int) == 4) = false := by
      have := kind_not4 (Nat.le_of_not_lt hn)
      exact beq_eq_false_iff_ne.2 (by omega)
    by_cases hi : a % 4294967296 % 2147483648 = 2139095040
    · rw [show wm 2147483648 2139095040 23 (a % 4294967296) = 1 by unfold wm; rw [if_pos hi], show we 2147483648 2139095040 23 (-149) (a % 4294967296) = 1024 by unfold we; rw [if_pos hi]]
      exact Trunc_64_any 32 s sat _ a _ 1 1024 (by decide) (by decide) (by decide) k0 k4 HK (fun W => hid (cparts_32_inf a ha hi W)) w
    · rw [show wm 2147483648 2139095040 23 (a % 4294967296) = pm 23 (a % 4294967296 % 2147483648) by unfold wm; rw [if_neg hi], show we 2147483648 2139095040 23 (-149) (a % 4294967296) = pe 23 (-149) (a % 4294967296 % 2147483648) by unfold we; rw [if_neg hi]]
      have hf : a % 4294967296 % 2147483648 < 2139095040 := by omega
      have hm := pm_lt 23 (a % 4294967296 % 2147483648)
      have he := pe_eq 23 (-149) (a % 4294967296 % 2147483648)
      have hq : a % 4294967296 % 2147483648 / 2 ^ 23 ≤ 2047 := by show a % 4294967296 % 2147483648 / 8388608 ≤ 2047; omega
      have HP := fun W => hid (cparts_32 a ha hf W)
      generalize pm 23 (a % 4294967296 % 2147483648) = m at *
      generalize a % 4294967296 % 2147483648 / 2 ^ 23 = q at *
      generalize pe 23 (-149) (a % 4294967296 % 2147483648) = e at *
      have hm2 : m < 18446744073709551616 := Nat.lt_trans hm (by decide)
      have he1 : -4000 ≤ e := by clear hm2 hm HP HK k0 k4; omega
      have he2 : e ≤ 4000 := by clear hm2 hm HP HK k0 k4; omega
      exact Trunc_64_any 32 s sat _ a _ m e hm2 he1 he2 k0 k4 HK HP w

theorem Trunc_64_32 (s sat : Bool) (a : Nat) (ha : a < 18446744073709551616) (w : World) :
    Say 10 #[.int .i64 64, .int .i64 32, .bool s, .bool sat, .int .u64 a] w (.tuple #[.int .u64 ((truncW 9223372036854775808 9218868437227405312 52 (-1074) 32 s sat (a % 18446744073709551616)).1 : Int), .int .i64 (truncW 9223372036854775808 9218868437227405312 52 (-1074) 32 s sat (a % 18446744073709551616)).2]) := by
  have HK := fun W => hid (Kind_64 a ha W)
  by_cases hn : 9218868437227405312 < a % 18446744073709551616 % 9223372036854775808
  · rw [kind_4 hn] at HK
    have hv : truncW 9223372036854775808 9218868437227405312 52 (-1074) 32 s sat (a % 18446744073709551616) = (0, if sat then 0 else 43) := by unfold truncW; rw [if_pos hn]
    rw [hv]
    exact Trunc_32_nan 64 s sat a HK w
  · have hv : truncW 9223372036854775808 9218868437227405312 52 (-1074) 32 s sat (a % 18446744073709551616) = truncM 32 s sat (decide (9223372036854775808 ≤ a % 18446744073709551616)) (mag (wm 9223372036854775808 9218868437227405312 52 (a % 18446744073709551616)) (we 9223372036854775808 9218868437227405312 52 (-1074) (a % 18446744073709551616))) := by unfold truncW; rw [if_neg hn]
    rw [hv]
    have k0 : ((kindOf 9218868437227405312 (a % 18446744073709551616 % 9223372036854775808) : Int) == 0) = false := by
      have := kind_ne 9218868437227405312 (a % 18446744073709551616 % 9223372036854775808)
      exact beq_eq_false_iff_ne.2 (by omega)
    have k4 : ((kindOf 9218868437227405312 (a % 18446744073709551616 % 9223372036854775808) : Int) == 4) = false := by
      have := kind_not4 (Nat.le_of_not_lt hn)
      exact beq_eq_false_iff_ne.2 (by omega)
    by_cases hi : a % 18446744073709551616 % 9223372036854775808 = 9218868437227405312
    · rw [show wm 9223372036854775808 9218868437227405312 52 (a % 18446744073709551616) = 1 by unfold wm; rw [if_pos hi], show we 9223372036854775808 9218868437227405312 52 (-1074) (a % 18446744073709551616) = 1024 by unfold we; rw [if_pos hi]]
      exact Trunc_32_any 64 s sat _ a _ 1 1024 (by decide) (by decide) (by decide) k0 k4 HK (fun W => hid (cparts_64_inf a ha hi W)) w
    · rw [show wm 9223372036854775808 9218868437227405312 52 (a % 18446744073709551616) = pm 52 (a % 18446744073709551616 % 9223372036854775808) by unfold wm; rw [if_neg hi], show we 9223372036854775808 9218868437227405312 52 (-1074) (a % 18446744073709551616) = pe 52 (-1074) (a % 18446744073709551616 % 9223372036854775808) by unfold we; rw [if_neg hi]]
      have hf : a % 18446744073709551616 % 9223372036854775808 < 9218868437227405312 := by omega
      have hm := pm_lt 52 (a % 18446744073709551616 % 9223372036854775808)
      have he := pe_eq 52 (-1074) (a % 18446744073709551616 % 9223372036854775808)
      have hq : a % 18446744073709551616 % 9223372036854775808 / 2 ^ 52 ≤ 2047 := by show a % 18446744073709551616 % 9223372036854775808 / 4503599627370496 ≤ 2047; omega
      have HP := fun W => hid (cparts_64 a ha hf W)
      generalize pm 52 (a % 18446744073709551616 % 9223372036854775808) = m at *
      generalize a % 18446744073709551616 % 9223372036854775808 / 2 ^ 52 = q at *
      generalize pe 52 (-1074) (a % 18446744073709551616 % 9223372036854775808) = e at *
      have hm2 : m < 18446744073709551616 := Nat.lt_trans hm (by decide)
      have he1 : -4000 ≤ e := by clear hm2 hm HP HK k0 k4; omega
      have he2 : e ≤ 4000 := by clear hm2 hm HP HK k0 k4; omega
      exact Trunc_32_any 64 s sat _ a _ m e hm2 he1 he2 k0 k4 HK HP w

theorem Trunc_64_64 (s sat : Bool) (a : Nat) (ha : a < 18446744073709551616) (w : World) :
    Say 10 #[.int .i64 64, .int .i64 64, .bool s, .bool sat, .int .u64 a] w (.tuple #[.int .u64 ((truncW 9223372036854775808 9218868437227405312 52 (-1074) 64 s sat (a % 18446744073709551616)).1 : Int), .int .i64 (truncW 9223372036854775808 9218868437227405312 52 (-1074) 64 s sat (a % 18446744073709551616)).2]) := by
  have HK := fun W => hid (Kind_64 a ha W)
  by_cases hn : 9218868437227405312 < a % 18446744073709551616 % 9223372036854775808
  · rw [kind_4 hn] at HK
    have hv : truncW 9223372036854775808 9218868437227405312 52 (-1074) 64 s sat (a % 18446744073709551616) = (0, if sat then 0 else 43) := by unfold truncW; rw [if_pos hn]
    rw [hv]
    exact Trunc_64_nan 64 s sat a HK w
  · have hv : truncW 9223372036854775808 9218868437227405312 52 (-1074) 64 s sat (a % 18446744073709551616) = truncM 64 s sat (decide (9223372036854775808 ≤ a % 18446744073709551616)) (mag (wm 9223372036854775808 9218868437227405312 52 (a % 18446744073709551616)) (we 9223372036854775808 9218868437227405312 52 (-1074) (a % 18446744073709551616))) := by unfold truncW; rw [if_neg hn]
    rw [hv]
    have k0 : ((kindOf 9218868437227405312 (a % 18446744073709551616 % 9223372036854775808) : Int) == 0) = false := by
      have := kind_ne 9218868437227405312 (a % 18446744073709551616 % 9223372036854775808)
      exact beq_eq_false_iff_ne.2 (by omega)
    have k4 : ((kindOf 9218868437227405312 (a % 18446744073709551616 % 9223372036854775808) : Int) == 4) = false := by
      have := kind_not4 (Nat.le_of_not_lt hn)
      exact beq_eq_false_iff_ne.2 (by omega)
    by_cases hi : a % 18446744073709551616 % 9223372036854775808 = 9218868437227405312
    · rw [show wm 9223372036854775808 9218868437227405312 52 (a % 18446744073709551616) = 1 by unfold wm; rw [if_pos hi], show we 9223372036854775808 9218868437227405312 52 (-1074) (a % 18446744073709551616) = 1024 by unfold we; rw [if_pos hi]]
      exact Trunc_64_any 64 s sat _ a _ 1 1024 (by decide) (by decide) (by decide) k0 k4 HK (fun W => hid (cparts_64_inf a ha hi W)) w
    · rw [show wm 9223372036854775808 9218868437227405312 52 (a % 18446744073709551616) = pm 52 (a % 18446744073709551616 % 9223372036854775808) by unfold wm; rw [if_neg hi], show we 9223372036854775808 9218868437227405312 52 (-1074) (a % 18446744073709551616) = pe 52 (-1074) (a % 18446744073709551616 % 9223372036854775808) by unfold we; rw [if_neg hi]]
      have hf : a % 18446744073709551616 % 9223372036854775808 < 9218868437227405312 := by omega
      have hm := pm_lt 52 (a % 18446744073709551616 % 9223372036854775808)
      have he := pe_eq 52 (-1074) (a % 18446744073709551616 % 9223372036854775808)
      have hq : a % 18446744073709551616 % 9223372036854775808 / 2 ^ 52 ≤ 2047 := by show a % 18446744073709551616 % 9223372036854775808 / 4503599627370496 ≤ 2047; omega
      have HP := fun W => hid (cparts_64 a ha hf W)
      generalize pm 52 (a % 18446744073709551616 % 9223372036854775808) = m at *
      generalize a % 18446744073709551616 % 9223372036854775808 / 2 ^ 52 = q at *
      generalize pe 52 (-1074) (a % 18446744073709551616 % 9223372036854775808) = e at *
      have hm2 : m < 18446744073709551616 := Nat.lt_trans hm (by decide)
      have he1 : -4000 ≤ e := by clear hm2 hm HP HK k0 k4; omega
      have he2 : e ≤ 4000 := by clear hm2 hm HP HK k0 k4; omega
      exact Trunc_64_any 64 s sat _ a _ m e hm2 he1 he2 k0 k4 HK HP w

theorem Trunc_bad (F b : Int) (h : (F ≠ 32 ∧ F ≠ 64) ∨ (b ≠ 32 ∧ b ≠ 64)) (s sat : Bool) (a : Nat) (ha : a < 18446744073709551616) (w : World) :
    Say 10 #[.int .i64 F, .int .i64 b, .bool s, .bool sat, .int .u64 a] w (.tuple #[.int .u64 0, .int .i64 1]) := by
  have HK : ∃ k : Nat, ∀ W, Hid (Say 20 #[.int .i64 F, .int .u64 a] W (.int .i64 (k : Int))) := by
    by_cases h1 : F = 32
    · subst h1; exact ⟨_, fun W => hid (Kind_32 a ha W)⟩
    · by_cases h2 : F = 64
      · subst h2; exact ⟨_, fun W => hid (Kind_64 a ha W)⟩
      · exact ⟨0, fun W => hid (Kind_no F h1 h2 a W)⟩
  obtain ⟨k, HK⟩ := HK
  by_cases hb : b ≠ 32 ∧ b ≠ 64
  · exact Trunc_no F b hb.1 hb.2 s sat a k HK w
  · have hF : F ≠ 32 ∧ F ≠ 64 := by rcases h with h | h; exact h; exact absurd h hb
    have hb2 : b = 32 ∨ b = 64 := by omega
    rcases hb2 with rfl | rfl
    · exact Trunc_32_wrong F s sat a (fun W => hid (Kind_no F hF.1 hF.2 a W)) w
    · exact Trunc_64_wrong F s sat a (fun W => hid (Kind_no F hF.1 hF.2 a W)) w

end Go.Proofs.Ytnpamiofhalimaa
