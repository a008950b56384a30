/-
  FCAll, FCConv: merged (each text says what it holds where it lies in wip). No condition.
-/
import Derived.Test.YtlhakbkdlgejpaaGreatDoorF09
import Derived.Test.YtlhakbkdlgejpaaGreatDoorF07
set_option linter.unusedSimpArgs false
set_option linter.unusedVariables false
set_option maxRecDepth 100000
namespace Go.Proofs.YtlhakbkdlgejpaaGreatDoor.Fl
open Go.RowKit

/-- A number times a power of 2, rounded down. -/
def mag (m : Nat) (e : Int) : Nat := if e < 0 then m / 2 ^ (-e).toNat else m * 2 ^ e.toNat

/-- A size with a sign, as an integer of n bits: its word, and the error. -/
def truncM (n : Nat) (s sat neg : Bool) (M : Nat) : Nat × Int :=
  if M ≤ bnd n s neg then ((if neg then 2 ^ n - M else M) % 2 ^ n, 0) else if sat then ((if neg then 2 ^ n - bnd n s neg else bnd n s neg) % 2 ^ n, 0) else (0, 42)

/-- The number and the power of 2 of a word that is no NaN: an infinity is 2 to the power of 1024. -/
def wm (SB INF P c : Nat) : Nat := if c % SB = INF then 1 else pm P (c % SB)
def we (SB INF P : Nat) (low : Int) (c : Nat) : Int := if c % SB = INF then 1024 else pe P low (c % SB)

/-- A word as an integer of n bits. -/
def truncW (SB INF P : Nat) (low : Int) (n : Nat) (s sat : Bool) (c : Nat) : Nat × Int :=
  if INF < c % SB then (0, if sat then 0 else 43) else truncM n s sat (decide (SB ≤ c)) (mag (wm SB INF P c) (we SB INF P low c))

theorem wrap_neg (q : Nat) (h : q < 18446744073709551616) : IntKind.u64.wrap (-(q : Int)) = (((18446744073709551616 - q) % 18446744073709551616 : Nat) : Int) := by
  rw [IntKind.wrap_u64]; omega

theorem not_fit (x d : Nat) (h : 18446744073709551616 ≤ x * d) (hd : 0 < d) : ¬ x * d % 18446744073709551616 / d = x := by
  intro hh
  have h1 := Nat.div_mul_le_self (x * d % 18446744073709551616) d
  rw [hh] at h1
  have h2 := Nat.mod_lt (x * d) (show 0 < 18446744073709551616 by decide)
  omega

/-- What whole says: the number, where it fits; and that it doesn't fit where it doesn't. -/
theorem whole_any (m : Nat) (hm : m < 18446744073709551616) (e : Int) (h0 : -4000 ≤ e) (h1 : e ≤ 4000) :
    ∃ (q : Nat) (f : Bool), (∀ W, Hid (Say 207 #[.int .u64 (m : Int), .int .i64 e] W (.tuple #[.int .u64 (q : Int), .bool f]))) ∧ q < 18446744073709551616 ∧ (f = true → q = mag m e) ∧ (f = false → 18446744073709551616 ≤ mag m e) := by
  by_cases hn : e < 0
  · obtain ⟨k, hk⟩ : ∃ k : Nat, e = -(k : Int) := ⟨(-e).toNat, by omega⟩
    subst hk
    refine ⟨m / 2 ^ k, true, fun W => hid (whole_neg m k hm (by omega) (by omega) W), Nat.lt_of_le_of_lt (Nat.div_le_self _ _) hm, fun _ => ?_, fun h => by cases h⟩
    unfold mag
    rw [if_pos hn, Int.neg_neg, Int.toNat_natCast]
  · obtain ⟨k, hk⟩ : ∃ k : Nat, e = (k : Int) := ⟨e.toNat, by omega⟩
    subst hk
    have hM : mag m (k : Int) = m * 2 ^ k := by unfold mag; rw [if_neg hn, Int.toNat_natCast]
    refine ⟨m * 2 ^ k % 18446744073709551616, _, fun W => hid (whole_pos m k hm (by omega) W), Nat.mod_lt _ (by decide), fun h => ?_, fun h => ?_⟩
    · rw [hM]
      have h2 := of_decide_eq_true h
      rcases Nat.lt_or_ge (m * 2 ^ k) 18446744073709551616 with h3 | h3
      · exact Nat.mod_eq_of_lt h3
      · exact absurd h2 (not_fit m (2 ^ k) h3 (Nat.two_pow_pos k))
    · rw [hM]
      have h2 := of_decide_eq_false h
      rcases Nat.lt_or_ge (m * 2 ^ k) 18446744073709551616 with h3 | h3
      · exact absurd (by rw [Nat.mod_eq_of_lt h3]; exact Nat.mul_div_cancel _ (Nat.two_pow_pos k)) h2
      · exact h3

theorem kind_ne (INF s : Nat) : kindOf INF s ≠ 0 := by
  unfold kindOf; split
  · decide
  · split
    · decide
    · split <;> decide

theorem kind_4 {INF s : Nat} (h : INF < s) : kindOf INF s = 4 := by
  unfold kindOf; rw [if_neg (by omega), if_neg (by omega), if_neg (by omega)]
theorem kind_not4 {INF s : Nat} (h : s ≤ INF) : kindOf INF s ≠ 4 := by
  unfold kindOf; split
  · decide
  · split
    · decide
    · rw [if_pos (by omega)]; decide

theorem bnd_32 (s neg : Bool) : bnd 32 s neg < 4294967296 ∧ (neg = true → bnd 32 s neg ≤ 2147483648) := by
  cases s <;> cases neg <;> decide

theorem cutneg_32 (q : Nat) (h : q ≤ 2147483648) : (18446744073709551616 - q) % 18446744073709551616 % 4294967296 = (4294967296 - q) % 4294967296 := by omega

theorem Trunc_32_any (F : Int) (s sat neg : Bool) (a k m : Nat) (e : Int) (hm : m < 18446744073709551616) (h0 : -4000 ≤ e) (h1 : e ≤ 4000) (hk0 : ((k : Int) == 0) = false) (hk4 : ((k : Int) == 4) = false)
    (HK : ∀ W, Hid (Say 204 #[.int .i64 F, .int .u64 a] W (.int .i64 (k : Int))))
    (HP : ∀ W, Hid (Say 206 #[.int .i64 F, .int .u64 a] W (.tuple #[.bool neg, .int .u64 (m : Int), .int .i64 e]))) (w : World) :
    Say 141 #[.int .i64 F, .int .i64 32, .bool s, .bool sat, .int .u64 a] w (.tuple #[.int .u64 ((truncM 32 s sat neg (mag m e)).1 : Int), .int .i64 (truncM 32 s sat neg (mag m e)).2]) := by
  obtain ⟨q, f, HW, hq64, ht, hf⟩ := whole_any m hm e h0 h1
  obtain ⟨hb, hbn⟩ := bnd_32 s neg
  generalize mag m e = M at *
  by_cases hin : M ≤ bnd 32 s neg
  · have hff : f = true := by
      cases f with
      | true => rfl
      | false => have := hf rfl; omega
    subst hff
    have hqM := ht rfl
    subst hqM
    have := Trunc_32_in F s sat neg a k m q _ e hk0 hk4 HK HP HW hin (wrap_neg q hq64) hq64 (Nat.mod_lt _ (by decide)) w
    have hv : truncM 32 s sat neg q = ((if neg then (18446744073709551616 - q) % 18446744073709551616 else q) % 4294967296, 0) := by
      unfold truncM
      rw [if_pos hin]
      cases neg with
      | false => rfl
      | true =>
        have := cutneg_32 q (Nat.le_trans hin (hbn rfl))
        rw [if_pos rfl, if_pos rfl, this]
    rw [hv]
    exact this
  · have hor : f = false ∨ bnd 32 s neg < q := by
      cases f with
      | true => have := ht rfl; exact .inr (by omega)
      | false => exact .inl rfl
    cases sat with
    | false =>
      have := Trunc_32_over F s neg f a k m q e hk0 hk4 HK HP HW hor w
      have hv : truncM 32 s false neg M = (0, 42) := by unfold truncM; rw [if_neg hin, if_neg (by decide)]
      rw [hv]
      exact this
    | true =>
      have hb64 : bnd 32 s neg < 18446744073709551616 := by omega
      have := Trunc_32_held F s neg f a k m q _ e hk0 hk4 HK HP HW hor (wrap_neg _ hb64) hb64 (Nat.mod_lt _ (by decide)) w
      have hv : truncM 32 s true neg M = ((if neg then (18446744073709551616 - bnd 32 s neg) % 18446744073709551616 else bnd 32 s neg) % 4294967296, 0) := by
        unfold truncM
        rw [if_neg hin, if_pos rfl]
        cases neg with
        | false => rfl
        | true =>
          have := cutneg_32 (bnd 32 s true) (hbn rfl)
          rw [if_pos rfl, if_pos rfl, this]
      rw [hv]
      exact this

theorem bnd_64 (s neg : Bool) : bnd 64 s neg < 18446744073709551616 ∧ (neg = true → bnd 64 s neg ≤ 9223372036854775808) := by
  cases s <;> cases neg <;> decide

theorem cutneg_64 (q : Nat) (h : q ≤ 9223372036854775808) : (18446744073709551616 - q) % 18446744073709551616 % 18446744073709551616 = (18446744073709551616 - q) % 18446744073709551616 := by omega

theorem Trunc_64_any (F : Int) (s sat neg : Bool) (a k m : Nat) (e : Int) (hm : m < 18446744073709551616) (h0 : -4000 ≤ e) (h1 : e ≤ 4000) (hk0 : ((k : Int) == 0) = false) (hk4 : ((k : Int) == 4) = false)
    (HK : ∀ W, Hid (Say 204 #[.int .i64 F, .int .u64 a] W (.int .i64 (k : Int))))
    (HP : ∀ W, Hid (Say 206 #[.int .i64 F, .int .u64 a] W (.tuple #[.bool neg, .int .u64 (m : Int), .int .i64 e]))) (w : World) :
    Say 141 #[.int .i64 F, .int .i64 64, .bool s, .bool sat, .int .u64 a] w (.tuple #[.int .u64 ((truncM 64 s sat neg (mag m e)).1 : Int), .int .i64 (truncM 64 s sat neg (mag m e)).2]) := by
  obtain ⟨q, f, HW, hq64, ht, hf⟩ := whole_any m hm e h0 h1
  obtain ⟨hb, hbn⟩ := bnd_64 s neg
  generalize mag m e = M at *
  by_cases hin : M ≤ bnd 64 s neg
  · have hff : f = true := by
      cases f with
      | true => rfl
      | false => have := hf rfl; omega
    subst hff
    have hqM := ht rfl
    subst hqM
    have := Trunc_64_in F s sat neg a k m q _ e hk0 hk4 HK HP HW hin (wrap_neg q hq64) hq64 (Nat.mod_lt _ (by decide)) w
    have hv : truncM 64 s sat neg q = ((if neg then (18446744073709551616 - q) % 18446744073709551616 else q) % 18446744073709551616, 0) := by
      unfold truncM
      rw [if_pos hin]
      cases neg with
      | false => rfl
      | true =>
        have := cutneg_64 q (Nat.le_trans hin (hbn rfl))
        rw [if_pos rfl, if_pos rfl, this]
    rw [hv]
    exact this
  · have hor : f = false ∨ bnd 64 s neg < q := by
      cases f with
      | true => have := ht rfl; exact .inr (by omega)
      | false => exact .inl rfl
    cases sat with
    | false =>
      have := Trunc_64_over F s neg f a k m q e hk0 hk4 HK HP HW hor w
      have hv : truncM 64 s false neg M = (0, 42) := by unfold truncM; rw [if_neg hin, if_neg (by decide)]
      rw [hv]
      exact this
    | true =>
      have hb64 : bnd 64 s neg < 18446744073709551616 := by omega
      have := Trunc_64_held F s neg f a k m q _ e hk0 hk4 HK HP HW hor (wrap_neg _ hb64) hb64 (Nat.mod_lt _ (by decide)) w
      have hv : truncM 64 s true neg M = ((if neg then (18446744073709551616 - bnd 64 s neg) % 18446744073709551616 else bnd 64 s neg) % 18446744073709551616, 0) := by
        unfold truncM
        rw [if_neg hin, if_pos rfl]
        cases neg with
        | false => rfl
        | true =>
          have := cutneg_64 (bnd 64 s true) (hbn rfl)
          rw [if_pos rfl, if_pos rfl, this]
      rw [hv]
      exact this

theorem Trunc_32_32 (s sat : Bool) (a : Nat) (ha : a < 18446744073709551616) (w : World) :
    Say 141 #[.int .i64 32, .int .i64 32, .bool s, .bool sat, .int .u64 a] w (.tuple #[.int .u64 ((truncW 2147483648 2139095040 23 (-149) 32 s sat (a % 4294967296)).1 : Int), .int .i64 (truncW 2147483648 2139095040 23 (-149) 32 s sat (a % 4294967296)).2]) := by
  have HK := fun W => hid (Kind_32 a ha W)
  by_cases hn : 2139095040 < a % 4294967296 % 2147483648
  · rw [kind_4 hn] at HK
    have hv : truncW 2147483648 2139095040 23 (-149) 32 s sat (a % 4294967296) = (0, if sat then 0 else 43) := by unfold truncW; rw [if_pos hn]
    rw [hv]
    exact Trunc_32_nan 32 s sat a HK w
  · have hv : truncW 2147483648 2139095040 23 (-149) 32 s sat (a % 4294967296) = truncM 32 s sat (decide (2147483648 ≤ a % 4294967296)) (mag (wm 2147483648 2139095040 23 (a % 4294967296)) (we 2147483648 2139095040 23 (-149) (a % 4294967296))) := by unfold truncW; rw [if_neg hn]
    rw [hv]
    have k0 : ((kindOf 2139095040 (a % 4294967296 % 2147483648) : Int) == 0) = false := by
      have := kind_ne 2139095040 (a % 4294967296 % 2147483648)
      exact beq_eq_false_iff_ne.2 (by omega)
    have k4 : ((kindOf 2139095040 (a % 4294967296 % 2147483648) : Int) == 4) = false := by
      have := kind_not4 (Nat.le_of_not_lt hn)
      exact beq_eq_false_iff_ne.2 (by omega)
    by_cases hi : a % 4294967296 % 2147483648 = 2139095040
    · rw [show wm 2147483648 2139095040 23 (a % 4294967296) = 1 by unfold wm; rw [if_pos hi], show we 2147483648 2139095040 23 (-149) (a % 4294967296) = 1024 by unfold we; rw [if_pos hi]]
      exact Trunc_32_any 32 s sat _ a _ 1 1024 (by decide) (by decide) (by decide) k0 k4 HK (fun W => hid (cparts_32_inf a ha hi W)) w
    · rw [show wm 2147483648 2139095040 23 (a % 4294967296) = pm 23 (a % 4294967296 % 2147483648) by unfold wm; rw [if_neg hi], show we 2147483648 2139095040 23 (-149) (a % 4294967296) = pe 23 (-149) (a % 4294967296 % 2147483648) by unfold we; rw [if_neg hi]]
      have hf : a % 4294967296 % 2147483648 < 2139095040 := by omega
      have hm := pm_lt 23 (a % 4294967296 % 2147483648)
      have he := pe_eq 23 (-149) (a % 4294967296 % 2147483648)
      have hq : a % 4294967296 % 2147483648 / 2 ^ 23 ≤ 2047 := by show a % 4294967296 % 2147483648 / 8388608 ≤ 2047; omega
      have HP := fun W => hid (cparts_32 a ha hf W)
      generalize pm 23 (a % 4294967296 % 2147483648) = m at *
      generalize a % 4294967296 % 2147483648 / 2 ^ 23 = q at *
      generalize pe 23 (-149) (a % 4294967296 % 2147483648) = e at *
      have hm2 : m < 18446744073709551616 := Nat.lt_trans hm (by decide)
      have he1 : -4000 ≤ e := by clear hm2 hm HP HK k0 k4; omega
      have he2 : e ≤ 4000 := by clear hm2 hm HP HK k0 k4; omega
      exact Trunc_32_any 32 s sat _ a _ m e hm2 he1 he2 k0 k4 HK HP w

theorem Trunc_32_64 (s sat : Bool) (a : Nat) (ha : a < 18446744073709551616) (w : World) :
    Say 141 #[.int .i64 32, .int .i64 64, .bool s, .bool sat, .int .u64 a] w (.tuple #[.int .u64 ((truncW 2147483648 2139095040 23 (-149) 64 s sat (a % 4294967296)).1 : Int), .int .i64 (truncW 2147483648 2139095040 23 (-149) 64 s sat (a % 4294967296)).2]) := by
  have HK := fun W => hid (Kind_32 a ha W)
  by_cases hn : 2139095040 < a % 4294967296 % 2147483648
  · rw [kind_4 hn] at HK
    have hv : truncW 2147483648 2139095040 23 (-149) 64 s sat (a % 4294967296) = (0, if sat then 0 else 43) := by unfold truncW; rw [if_pos hn]
    rw [hv]
    exact Trunc_64_nan 32 s sat a HK w
  · have hv : truncW 2147483648 2139095040 23 (-149) 64 s sat (a % 4294967296) = truncM 64 s sat (decide (2147483648 ≤ a % 4294967296)) (mag (wm 2147483648 2139095040 23 (a % 4294967296)) (we 2147483648 2139095040 23 (-149) (a % 4294967296))) := by unfold truncW; rw [if_neg hn]
    rw [hv]
    have k0 : ((kindOf 2139095040 (a % 4294967296 % 2147483648) : Int) == 0) = false := by
      have := kind_ne 2139095040 (a % 4294967296 % 2147483648)
      exact beq_eq_false_iff_ne.2 (by omega)
    have k4 : ((kindOf 2139095040 (a % 4294967296 % 2147483648) : Int) == 4) = false := by
      have := kind_not4 (Nat.le_of_not_lt hn)
      exact beq_eq_false_iff_ne.2 (by omega)
    by_cases hi : a % 4294967296 % 2147483648 = 2139095040
    · rw [show wm 2147483648 2139095040 23 (a % 4294967296) = 1 by unfold wm; rw [if_pos hi], show we 2147483648 2139095040 23 (-149) (a % 4294967296) = 1024 by unfold we; rw [if_pos hi]]
      exact Trunc_64_any 32 s sat _ a _ 1 1024 (by decide) (by decide) (by decide) k0 k4 HK (fun W => hid (cparts_32_inf a ha hi W)) w
    · rw [show wm 2147483648 2139095040 23 (a % 4294967296) = pm 23 (a % 4294967296 % 2147483648) by unfold wm; rw [if_neg hi], show we 2147483648 2139095040 23 (-149) (a % 4294967296) = pe 23 (-149) (a % 4294967296 % 2147483648) by unfold we; rw [if_neg hi]]
      have hf : a % 4294967296 % 2147483648 < 2139095040 := by omega
      have hm := pm_lt 23 (a % 4294967296 % 2147483648)
      have he := pe_eq 23 (-149) (a % 4294967296 % 2147483648)
      have hq : a % 4294967296 % 2147483648 / 2 ^ 23 ≤ 2047 := by show a % 4294967296 % 2147483648 / 8388608 ≤ 2047; omega
      have HP := fun W => hid (cparts_32 a ha hf W)
      generalize pm 23 (a % 4294967296 % 2147483648) = m at *
      generalize a % 4294967296 % 2147483648 / 2 ^ 23 = q at *
      generalize pe 23 (-149) (a % 4294967296 % 2147483648) = e at *
      have hm2 : m < 18446744073709551616 := Nat.lt_trans hm (by decide)
      have he1 : -4000 ≤ e := by clear hm2 hm HP HK k0 k4; omega
      have he2 : e ≤ 4000 := by clear hm2 hm HP HK k0 k4; omega
      exact Trunc_64_any 32 s sat _ a _ m e hm2 he1 he2 k0 k4 HK HP w

theorem Trunc_64_32 (s sat : Bool) (a : Nat) (ha : a < 18446744073709551616) (w : World) :
    Say 141 #[.int .i64 64, .int .i64 32, .bool s, .bool sat, .int .u64 a] w (.tuple #[.int .u64 ((truncW 9223372036854775808 9218868437227405312 52 (-1074) 32 s sat (a % 18446744073709551616)).1 : Int), .int .i64 (truncW 9223372036854775808 9218868437227405312 52 (-1074) 32 s sat (a % 18446744073709551616)).2]) := by
  have HK := fun W => hid (Kind_64 a ha W)
  by_cases hn : 9218868437227405312 < a % 18446744073709551616 % 9223372036854775808
  · rw [kind_4 hn] at HK
    have hv : truncW 9223372036854775808 9218868437227405312 52 (-1074) 32 s sat (a % 18446744073709551616) = (0, if sat then 0 else 43) := by unfold truncW; rw [if_pos hn]
    rw [hv]
    exact Trunc_32_nan 64 s sat a HK w
  · have hv : truncW 9223372036854775808 9218868437227405312 52 (-1074) 32 s sat (a % 18446744073709551616) = truncM 32 s sat (decide (9223372036854775808 ≤ a % 18446744073709551616)) (mag (wm 9223372036854775808 9218868437227405312 52 (a % 18446744073709551616)) (we 9223372036854775808 9218868437227405312 52 (-1074) (a % 18446744073709551616))) := by unfold truncW; rw [if_neg hn]
    rw [hv]
    have k0 : ((kindOf 9218868437227405312 (a % 18446744073709551616 % 9223372036854775808) : Int) == 0) = false := by
      have := kind_ne 9218868437227405312 (a % 18446744073709551616 % 9223372036854775808)
      exact beq_eq_false_iff_ne.2 (by omega)
    have k4 : ((kindOf 9218868437227405312 (a % 18446744073709551616 % 9223372036854775808) : Int) == 4) = false := by
      have := kind_not4 (Nat.le_of_not_lt hn)
      exact beq_eq_false_iff_ne.2 (by omega)
    by_cases hi : a % 18446744073709551616 % 9223372036854775808 = 9218868437227405312
    · rw [show wm 9223372036854775808 9218868437227405312 52 (a % 18446744073709551616) = 1 by unfold wm; rw [if_pos hi], show we 9223372036854775808 9218868437227405312 52 (-1074) (a % 18446744073709551616) = 1024 by unfold we; rw [if_pos hi]]
      exact Trunc_32_any 64 s sat _ a _ 1 1024 (by decide) (by decide) (by decide) k0 k4 HK (fun W => hid (cparts_64_inf a ha hi W)) w
    · rw [show wm 9223372036854775808 9218868437227405312 52 (a % 18446744073709551616) = pm 52 (a % 18446744073709551616 % 9223372036854775808) by unfold wm; rw [if_neg hi], show we 9223372036854775808 9218868437227405312 52 (-1074) (a % 18446744073709551616) = pe 52 (-1074) (a % 18446744073709551616 % 9223372036854775808) by unfold we; rw [if_neg hi]]
      have hf : a % 18446744073709551616 % 9223372036854775808 < 9218868437227405312 := by omega
      have hm := pm_lt 52 (a % 18446744073709551616 % 9223372036854775808)
      have he := pe_eq 52 (-1074) (a % 18446744073709551616 % 9223372036854775808)
      have hq : a % 18446744073709551616 % 9223372036854775808 / 2 ^ 52 ≤ 2047 := by show a % 18446744073709551616 % 9223372036854775808 / 4503599627370496 ≤ 2047; omega
      have HP := fun W => hid (cparts_64 a ha hf W)
      generalize pm 52 (a % 18446744073709551616 % 9223372036854775808) = m at *
      generalize a % 18446744073709551616 % 9223372036854775808 / 2 ^ 52 = q at *
      generalize pe 52 (-1074) (a % 18446744073709551616 % 9223372036854775808) = e at *
      have hm2 : m < 18446744073709551616 := Nat.lt_trans hm (by decide)
      have he1 : -4000 ≤ e := by clear hm2 hm HP HK k0 k4; omega
      have he2 : e ≤ 4000 := by clear hm2 hm HP HK k0 k4; omega
      exact Trunc_32_any 64 s sat _ a _ m e hm2 he1 he2 k0 k4 HK HP w

theorem Trunc_64_64 (s sat : Bool) (a : Nat) (ha : a < 18446744073709551616) (w : World) :
    Say 141 #[.int .i64 64, .int .i64 64, .bool s, .bool sat, .int .u64 a] w (.tuple #[.int .u64 ((truncW 9223372036854775808 9218868437227405312 52 (-1074) 64 s sat (a % 18446744073709551616)).1 : Int), .int .i64 (truncW 9223372036854775808 9218868437227405312 52 (-1074) 64 s sat (a % 18446744073709551616)).2]) := by
  have HK := fun W => hid (Kind_64 a ha W)
  by_cases hn : 9218868437227405312 < a % 18446744073709551616 % 9223372036854775808
  · rw [kind_4 hn] at HK
    have hv : truncW 9223372036854775808 9218868437227405312 52 (-1074) 64 s sat (a % 18446744073709551616) = (0, if sat then 0 else 43) := by unfold truncW; rw [if_pos hn]
    rw [hv]
    exact Trunc_64_nan 64 s sat a HK w
  · have hv : truncW 9223372036854775808 9218868437227405312 52 (-1074) 64 s sat (a % 18446744073709551616) = truncM 64 s sat (decide (9223372036854775808 ≤ a % 18446744073709551616)) (mag (wm 9223372036854775808 9218868437227405312 52 (a % 18446744073709551616)) (we 9223372036854775808 9218868437227405312 52 (-1074) (a % 18446744073709551616))) := by unfold truncW; rw [if_neg hn]
    rw [hv]
    have k0 : ((kindOf 9218868437227405312 (a % 18446744073709551616 % 9223372036854775808) : Int) == 0) = false := by
      have := kind_ne 9218868437227405312 (a % 18446744073709551616 % 9223372036854775808)
      exact beq_eq_false_iff_ne.2 (by omega)
    have k4 : ((kindOf 9218868437227405312 (a % 18446744073709551616 % 9223372036854775808) : Int) == 4) = false := by
      have := kind_not4 (Nat.le_of_not_lt hn)
      exact beq_eq_false_iff_ne.2 (by omega)
    by_cases hi : a % 18446744073709551616 % 9223372036854775808 = 9218868437227405312
    · rw [show wm 9223372036854775808 9218868437227405312 52 (a % 18446744073709551616) = 1 by unfold wm; rw [if_pos hi], show we 9223372036854775808 9218868437227405312 52 (-1074) (a % 18446744073709551616) = 1024 by unfold we; rw [if_pos hi]]
      exact Trunc_64_any 64 s sat _ a _ 1 1024 (by decide) (by decide) (by decide) k0 k4 HK (fun W => hid (cparts_64_inf a ha hi W)) w
    · rw [show wm 9223372036854775808 9218868437227405312 52 (a % 18446744073709551616) = pm 52 (a % 18446744073709551616 % 9223372036854775808) by unfold wm; rw [if_neg hi], show we 9223372036854775808 9218868437227405312 52 (-1074) (a % 18446744073709551616) = pe 52 (-1074) (a % 18446744073709551616 % 9223372036854775808) by unfold we; rw [if_neg hi]]
      have hf : a % 18446744073709551616 % 9223372036854775808 < 9218868437227405312 := by omega
      have hm := pm_lt 52 (a % 18446744073709551616 % 9223372036854775808)
      have he := pe_eq 52 (-1074) (a % 18446744073709551616 % 9223372036854775808)
      have hq : a % 18446744073709551616 % 9223372036854775808 / 2 ^ 52 ≤ 2047 := by show a % 18446744073709551616 % 9223372036854775808 / 4503599627370496 ≤ 2047; omega
      have HP := fun W => hid (cparts_64 a ha hf W)
      generalize pm 52 (a % 18446744073709551616 % 9223372036854775808) = m at *
      generalize a % 18446744073709551616 % 9223372036854775808 / 2 ^ 52 = q at *
      generalize pe 52 (-1074) (a % 18446744073709551616 % 9223372036854775808) = e at *
      have hm2 : m < 18446744073709551616 := Nat.lt_trans hm (by decide)
      have he1 : -4000 ≤ e := by clear hm2 hm HP HK k0 k4; omega
      have he2 : e ≤ 4000 := by clear hm2 hm HP HK k0 k4; omega
      exact Trunc_64_any 64 s sat _ a _ m e hm2 he1 he2 k0 k4 HK HP w

theorem Trunc_bad (F b : Int) (h : (F ≠ 32 ∧ F ≠ 64) ∨ (b ≠ 32 ∧ b ≠ 64)) (s sat : Bool) (a : Nat) (ha : a < 18446744073709551616) (w : World) :
    Say 141 #[.int .i64 F, .int .i64 b, .bool s, .bool sat, .int .u64 a] w (.tuple #[.int .u64 0, .int .i64 1]) := by
  have HK : ∃ k : Nat, ∀ W, Hid (Say 204 #[.int .i64 F, .int .u64 a] W (.int .i64 (k : Int))) := by
    by_cases h1 : F = 32
    · subst h1; exact ⟨_, fun W => hid (Kind_32 a ha W)⟩
    · by_cases h2 : F = 64
      · subst h2; exact ⟨_, fun W => hid (Kind_64 a ha W)⟩
      · exact ⟨0, fun W => hid (Kind_no F h1 h2 a W)⟩
  obtain ⟨k, HK⟩ := HK
  by_cases hb : b ≠ 32 ∧ b ≠ 64
  · exact Trunc_no F b hb.1 hb.2 s sat a k HK w
  · have hF : F ≠ 32 ∧ F ≠ 64 := by rcases h with h | h; exact h; exact absurd h hb
    have hb2 : b = 32 ∨ b = 64 := by omega
    rcases hb2 with rfl | rfl
    · exact Trunc_32_wrong F s sat a (fun W => hid (Kind_no F hF.1 hF.2 a W)) w
    · exact Trunc_64_wrong F s sat a (fun W => hid (Kind_no F hF.1 hF.2 a W)) w

end Go.Proofs.YtlhakbkdlgejpaaGreatDoor.Fl
namespace Go.Proofs.YtlhakbkdlgejpaaGreatDoor.Fl
open Go.RowKit

/-- The integer of n bits: whether it is below 0, and its size. -/
def ineg (n : Nat) (s : Bool) (a : Nat) : Bool := s && decide (2 ^ (n - 1) ≤ a % 2 ^ n)
def isize (n : Nat) (s : Bool) (a : Nat) : Nat := if ineg n s a then 2 ^ n - a % 2 ^ n else a % 2 ^ n

theorem ret_i {a b : Int} (h : a = b) : Ending.returned (.int .i64 a) = .returned (.int .i64 b) := by rw [h]

theorem iknown2_32 (w : World) : Say 135 #[.int .i64 32] w (.bool true) := by
  go_enter Tryz.func135, Tryz.ntmps135
  go_wp2
  go_ret
  exact ⟨rfl, Below.refl _ _⟩
theorem iknown2_64 (w : World) : Say 135 #[.int .i64 64] w (.bool true) := by
  go_enter Tryz.func135, Tryz.ntmps135
  go_wp2
  go_ret
  exact ⟨rfl, Below.refl _ _⟩

theorem Signed_32 (a : Nat) (ha : a < 18446744073709551616) (w : World) : ∃ z : Int, decide (z < 0) = decide (2147483648 ≤ a % 4294967296) ∧ Say 121 #[.int .i64 32, .int .u64 a] w (.int .i64 z) := by
  refine ⟨wrap64 (IntKind.u64.wrap ((a : Int) * 4294967296)) / 4294967296, ?_, ?_⟩
  · refine decide_eq_decide.2 ?_
    rw [IntKind.wrap_u64]; unfold wrap64; omega
  · go_enter Tryz.func121, Tryz.ntmps121
    go_wp2_with (go_at_call 135; refine (iknown2_32 _).mono ?_; rintro e w' ⟨rfl, hb⟩)
    go_ret
    exact ⟨rfl, hb⟩
theorem Signed_64 (a : Nat) (ha : a < 18446744073709551616) (w : World) : ∃ z : Int, decide (z < 0) = decide (9223372036854775808 ≤ a % 18446744073709551616) ∧ Say 121 #[.int .i64 64, .int .u64 a] w (.int .i64 z) := by
  refine ⟨wrap64 (a : Int), ?_, ?_⟩
  · refine decide_eq_decide.2 ?_
    unfold wrap64; omega
  · go_enter Tryz.func121, Tryz.ntmps121
    go_wp2_with (go_at_call 135; refine (iknown2_64 _).mono ?_; rintro e w' ⟨rfl, hb⟩)
    go_ret
    exact ⟨rfl, hb⟩

theorem Convert_no (b F : Int) (h1 : b ≠ 32) (h2 : b ≠ 64) (s : Bool) (a : Nat) (w : World) :
    Say 172 #[.int .i64 b, .int .i64 F, .bool s, .int .u64 a] w (.tuple #[.int .u64 0, .int .i64 1]) := by
  have HI := fun W => hid (integerOf_no b h1 h2 s W)
  have hB : Below w.heap.size w w := Below.refl _ _
  clear h1 h2
  go_enter Tryz.func172, Tryz.ntmps172
  go_wp2_with (first
    | (go_at_call 203; ((with_reducible refine (HI _).out.mono ?_); rintro e w1 ⟨rfl, hb⟩; replace hB := bnext hB hb; clear hb))
    | (go_at_call 205; ((with_reducible refine (iknown_no _).mono ?_); rintro e w3 ⟨rfl, hb⟩; have hS := (Si.new 0 false hB).call hb; obtain ⟨c0, c1⟩ := id hS.1)))
  exact bodyPost_ret (v := .tuple #[.int .u64 0, .int .i64 1]) (by simp [results, Tryz.results172, go_sem]) rfl ⟨rfl, hS.2.2⟩

theorem Convert_32_walk (F : Int) (s : Bool) (a : Nat) (ha : a < 18446744073709551616) (X : Nat) (E : Int)
    (HR : ∀ W, Hid (Say 239 #[.int .i64 F, .bool (ineg 32 s a), .int .u64 ((isize 32 s a : Nat) : Int), .int .i64 0, .bool false] W (.tuple #[.int .u64 (X : Int), .int .i64 E]))) (w : World) :
    Say 172 #[.int .i64 32, .int .i64 F, .bool s, .int .u64 a] w (.tuple #[.int .u64 (X : Int), .int .i64 E]) := by
  have HI := fun W => hid (integerOf_32 s W)
  have HN := fun W => hid (iknown_32 s W)
  have hB : Below w.heap.size w w := Below.refl _ _
  cases s with
  | false =>
    have HC := fun W => hid (icut_32 false a ha W)
    have h1 : ineg 32 false a = false := rfl
    have h2 : isize 32 false a = a % 4294967296 := rfl
    rw [h1, h2] at HR
    obtain ⟨c, hc⟩ : ∃ c : Nat, c = a % 4294967296 := ⟨_, rfl⟩
    rw [← hc] at HC HR
    clear hc h1 h2 ha
    go_enter Tryz.func172, Tryz.ntmps172
    go_wp2_with (first
      | (go_at_call 203; ((with_reducible refine (HI _).out.mono ?_); rintro e w1 ⟨rfl, hb⟩; replace hB := bnext hB hb; clear hb))
      | (go_at_call 205; ((with_reducible refine (HN _).out.mono ?_); rintro e w3 ⟨rfl, hb⟩; have hS := (Si.new 32 false hB).call hb; obtain ⟨c0, c1⟩ := id hS.1; clear hb hB))
      | (go_at_call 209; ((with_reducible refine (HC _).out.mono ?_); rintro e w4 ⟨rfl, hb⟩; replace hS := hS.call hb; clear c0 c1 hb; obtain ⟨c0, c1⟩ := id hS.1))
      | (go_at_call 239; ((with_reducible refine (HR _).out.mono ?_); rintro e w4 ⟨rfl, hb⟩; replace hS := hS.call hb; clear c0 c1 hb; obtain ⟨c0, c1⟩ := id hS.1)))
    exact bodyPost_ret (v := .tuple #[.int .u64 (X : Int), .int .i64 E]) (by simp [results, Tryz.results172, go_sem]) rfl ⟨rfl, hS.2.2⟩
  | true =>
    have h1 : ineg 32 true a = decide (2147483648 ≤ a % 4294967296) := rfl
    by_cases hn : 2147483648 ≤ a % 4294967296
    · have h3 : ineg 32 true a = true := by rw [h1]; exact decide_eq_true hn
      have h2 : isize 32 true a = 4294967296 - a % 4294967296 := by unfold isize; rw [h3, if_pos rfl]
      have hw := wrap_neg a ha
      obtain ⟨y, hy⟩ : ∃ y : Nat, y = (18446744073709551616 - a) % 18446744073709551616 := ⟨_, rfl⟩
      rw [← hy] at hw
      have hcut : y % 4294967296 = 4294967296 - a % 4294967296 := by clear hw HR; omega
      have HC := fun W => hid (icut_32 true y (by omega) W)
      obtain ⟨c, hc⟩ : ∃ c : Nat, c = 4294967296 - a % 4294967296 := ⟨_, rfl⟩
      rw [hcut, ← hc] at HC
      rw [h3, h2, ← hc] at HR
      have hzz : ∀ W, Calls Tryz.prog 121 #[.int .i64 32, .int .u64 a] W fun e w' => ∃ z : Int, decide (z < 0) = true ∧ e = .returned (.int .i64 z) ∧ Below W.heap.size W w' := fun W => by
        obtain ⟨z, hz, h⟩ := Signed_32 a ha W
        exact h.mono fun e w' h => ⟨z, hz.trans (decide_eq_true hn), h⟩
      have HZZ := hid hzz
      clear hzz
      clear hc hcut hy h2 h3 h1 hn ha
      go_enter Tryz.func172, Tryz.ntmps172
      go_wp2_with (first
        | (go_at_call 203; ((with_reducible refine (HI _).out.mono ?_); rintro e w1 ⟨rfl, hb⟩; replace hB := bnext hB hb; clear hb))
        | (go_at_call 205; ((with_reducible refine (HN _).out.mono ?_); rintro e w3 ⟨rfl, hb⟩; have hS := (Si.new 32 true hB).call hb; obtain ⟨c0, c1⟩ := id hS.1; clear hb hB))
        | (go_at_call 121; ((with_reducible refine (HZZ.out _).mono ?_); rintro e w4 ⟨z, hz, rfl, hb⟩; replace hS := hS.call hb; clear c0 c1 hb; obtain ⟨c0, c1⟩ := id hS.1))
        | (go_at_call 209; ((with_reducible refine (HC _).out.mono ?_); rintro e w4 ⟨rfl, hb⟩; replace hS := hS.call hb; clear c0 c1 hb; obtain ⟨c0, c1⟩ := id hS.1))
        | (go_at_call 239; ((with_reducible refine (HR _).out.mono ?_); rintro e w4 ⟨rfl, hb⟩; replace hS := hS.call hb; clear c0 c1 hb; obtain ⟨c0, c1⟩ := id hS.1)))
      exact bodyPost_ret (v := .tuple #[.int .u64 (X : Int), .int .i64 E]) (by simp [results, Tryz.results172, go_sem]) rfl ⟨rfl, hS.2.2⟩
    · have h3 : ineg 32 true a = false := by rw [h1]; exact decide_eq_false hn
      have h2 : isize 32 true a = a % 4294967296 := by unfold isize; rw [h3, if_neg (by decide)]
      have HC := fun W => hid (icut_32 true a ha W)
      obtain ⟨c, hc⟩ : ∃ c : Nat, c = a % 4294967296 := ⟨_, rfl⟩
      rw [← hc] at HC
      rw [h3, h2, ← hc] at HR
      have hzz : ∀ W, Calls Tryz.prog 121 #[.int .i64 32, .int .u64 a] W fun e w' => ∃ z : Int, decide (z < 0) = false ∧ e = .returned (.int .i64 z) ∧ Below W.heap.size W w' := fun W => by
        obtain ⟨z, hz, h⟩ := Signed_32 a ha W
        exact h.mono fun e w' h => ⟨z, hz.trans (decide_eq_false hn), h⟩
      have HZZ := hid hzz
      clear hzz
      clear hc h2 h3 h1 hn ha
      go_enter Tryz.func172, Tryz.ntmps172
      go_wp2_with (first
        | (go_at_call 203; ((with_reducible refine (HI _).out.mono ?_); rintro e w1 ⟨rfl, hb⟩; replace hB := bnext hB hb; clear hb))
        | (go_at_call 205; ((with_reducible refine (HN _).out.mono ?_); rintro e w3 ⟨rfl, hb⟩; have hS := (Si.new 32 true hB).call hb; obtain ⟨c0, c1⟩ := id hS.1; clear hb hB))
        | (go_at_call 121; ((with_reducible refine (HZZ.out _).mono ?_); rintro e w4 ⟨z, hz, rfl, hb⟩; replace hS := hS.call hb; clear c0 c1 hb; obtain ⟨c0, c1⟩ := id hS.1))
        | (go_at_call 209; ((with_reducible refine (HC _).out.mono ?_); rintro e w4 ⟨rfl, hb⟩; replace hS := hS.call hb; clear c0 c1 hb; obtain ⟨c0, c1⟩ := id hS.1))
        | (go_at_call 239; ((with_reducible refine (HR _).out.mono ?_); rintro e w4 ⟨rfl, hb⟩; replace hS := hS.call hb; clear c0 c1 hb; obtain ⟨c0, c1⟩ := id hS.1)))
      exact bodyPost_ret (v := .tuple #[.int .u64 (X : Int), .int .i64 E]) (by simp [results, Tryz.results172, go_sem]) rfl ⟨rfl, hS.2.2⟩

theorem isize_32 (s : Bool) (a : Nat) : isize 32 s a < 18446744073709551616 := by
  unfold isize
  have h : a % 4294967296 < 4294967296 := Nat.mod_lt _ (by decide)
  show (if ineg 32 s a then 4294967296 - a % 4294967296 else a % 4294967296) < 18446744073709551616
  cases hi : ineg 32 s a with
  | false => rw [if_neg (by decide)]; omega
  | true =>
    rw [if_pos rfl]
    unfold ineg at hi
    have h2 : 2147483648 ≤ a % 4294967296 := by cases s with
      | false => cases hi
      | true => exact of_decide_eq_true hi
    omega

theorem Convert_32_no (F : Int) (h1 : F ≠ 32) (h2 : F ≠ 64) (s : Bool) (a : Nat) (ha : a < 18446744073709551616) (w : World) :
    Say 172 #[.int .i64 32, .int .i64 F, .bool s, .int .u64 a] w (.tuple #[.int .u64 0, .int .i64 1]) :=
  Convert_32_walk F s a ha 0 1 (fun W => hid (Round_no F h1 h2 _ _ 0 false W)) w
theorem Convert_32_32 (s : Bool) (a : Nat) (ha : a < 18446744073709551616) (w : World) :
    Say 172 #[.int .i64 32, .int .i64 32, .bool s, .int .u64 a] w (.tuple #[.int .u64 ((Ieee.single.word (ineg 32 s a) (rungR Ieee.single (isize 32 s a) 0 false) : Nat) : Int), .int .i64 0]) :=
  Convert_32_walk 32 s a ha _ 0 (fun W => hid (by
    have := Round_32 (ineg 32 s a) (isize 32 s a) (isize_32 s a) 0 (by decide) (by decide) false W
    rw [if_neg (fun h => by cases h.1)] at this
    exact this)) w
theorem Convert_32_64 (s : Bool) (a : Nat) (ha : a < 18446744073709551616) (w : World) :
    Say 172 #[.int .i64 32, .int .i64 64, .bool s, .int .u64 a] w (.tuple #[.int .u64 ((Ieee.double.word (ineg 32 s a) (rungR Ieee.double (isize 32 s a) 0 false) : Nat) : Int), .int .i64 0]) :=
  Convert_32_walk 64 s a ha _ 0 (fun W => hid (by
    have := Round_64 (ineg 32 s a) (isize 32 s a) (isize_32 s a) 0 (by decide) (by decide) false W
    rw [if_neg (fun h => by cases h.1)] at this
    exact this)) w

theorem Convert_64_walk (F : Int) (s : Bool) (a : Nat) (ha : a < 18446744073709551616) (X : Nat) (E : Int)
    (HR : ∀ W, Hid (Say 239 #[.int .i64 F, .bool (ineg 64 s a), .int .u64 ((isize 64 s a : Nat) : Int), .int .i64 0, .bool false] W (.tuple #[.int .u64 (X : Int), .int .i64 E]))) (w : World) :
    Say 172 #[.int .i64 64, .int .i64 F, .bool s, .int .u64 a] w (.tuple #[.int .u64 (X : Int), .int .i64 E]) := by
  have HI := fun W => hid (integerOf_64 s W)
  have HN := fun W => hid (iknown_64 s W)
  have hB : Below w.heap.size w w := Below.refl _ _
  cases s with
  | false =>
    have HC := fun W => hid (icut_64 false a ha W)
    have h1 : ineg 64 false a = false := rfl
    have h2 : isize 64 false a = a % 18446744073709551616 := rfl
    rw [h1, h2] at HR
    obtain ⟨c, hc⟩ : ∃ c : Nat, c = a % 18446744073709551616 := ⟨_, rfl⟩
    rw [← hc] at HC HR
    clear hc h1 h2 ha
    go_enter Tryz.func172, Tryz.ntmps172
    go_wp2_with (first
      | (go_at_call 203; ((with_reducible refine (HI _).out.mono ?_); rintro e w1 ⟨rfl, hb⟩; replace hB := bnext hB hb; clear hb))
      | (go_at_call 205; ((with_reducible refine (HN _).out.mono ?_); rintro e w3 ⟨rfl, hb⟩; have hS := (Si.new 64 false hB).call hb; obtain ⟨c0, c1⟩ := id hS.1; clear hb hB))
      | (go_at_call 209; ((with_reducible refine (HC _).out.mono ?_); rintro e w4 ⟨rfl, hb⟩; replace hS := hS.call hb; clear c0 c1 hb; obtain ⟨c0, c1⟩ := id hS.1))
      | (go_at_call 239; ((with_reducible refine (HR _).out.mono ?_); rintro e w4 ⟨rfl, hb⟩; replace hS := hS.call hb; clear c0 c1 hb; obtain ⟨c0, c1⟩ := id hS.1)))
    exact bodyPost_ret (v := .tuple #[.int .u64 (X : Int), .int .i64 E]) (by simp [results, Tryz.results172, go_sem]) rfl ⟨rfl, hS.2.2⟩
  | true =>
    have h1 : ineg 64 true a = decide (9223372036854775808 ≤ a % 18446744073709551616) := rfl
    by_cases hn : 9223372036854775808 ≤ a % 18446744073709551616
    · have h3 : ineg 64 true a = true := by rw [h1]; exact decide_eq_true hn
      have h2 : isize 64 true a = 18446744073709551616 - a % 18446744073709551616 := by unfold isize; rw [h3, if_pos rfl]
      have hw := wrap_neg a ha
      obtain ⟨y, hy⟩ : ∃ y : Nat, y = (18446744073709551616 - a) % 18446744073709551616 := ⟨_, rfl⟩
      rw [← hy] at hw
      have hcut : y % 18446744073709551616 = 18446744073709551616 - a % 18446744073709551616 := by clear hw HR; omega
      have HC := fun W => hid (icut_64 true y (by omega) W)
      obtain ⟨c, hc⟩ : ∃ c : Nat, c = 18446744073709551616 - a % 18446744073709551616 := ⟨_, rfl⟩
      rw [hcut, ← hc] at HC
      rw [h3, h2, ← hc] at HR
      have hzz : ∀ W, Calls Tryz.prog 121 #[.int .i64 64, .int .u64 a] W fun e w' => ∃ z : Int, decide (z < 0) = true ∧ e = .returned (.int .i64 z) ∧ Below W.heap.size W w' := fun W => by
        obtain ⟨z, hz, h⟩ := Signed_64 a ha W
        exact h.mono fun e w' h => ⟨z, hz.trans (decide_eq_true hn), h⟩
      have HZZ := hid hzz
      clear hzz
      clear hc hcut hy h2 h3 h1 hn ha
      go_enter Tryz.func172, Tryz.ntmps172
      go_wp2_with (first
        | (go_at_call 203; ((with_reducible refine (HI _).out.mono ?_); rintro e w1 ⟨rfl, hb⟩; replace hB := bnext hB hb; clear hb))
        | (go_at_call 205; ((with_reducible refine (HN _).out.mono ?_); rintro e w3 ⟨rfl, hb⟩; have hS := (Si.new 64 true hB).call hb; obtain ⟨c0, c1⟩ := id hS.1; clear hb hB))
        | (go_at_call 121; ((with_reducible refine (HZZ.out _).mono ?_); rintro e w4 ⟨z, hz, rfl, hb⟩; replace hS := hS.call hb; clear c0 c1 hb; obtain ⟨c0, c1⟩ := id hS.1))
        | (go_at_call 209; ((with_reducible refine (HC _).out.mono ?_); rintro e w4 ⟨rfl, hb⟩; replace hS := hS.call hb; clear c0 c1 hb; obtain ⟨c0, c1⟩ := id hS.1))
        | (go_at_call 239; ((with_reducible refine (HR _).out.mono ?_); rintro e w4 ⟨rfl, hb⟩; replace hS := hS.call hb; clear c0 c1 hb; obtain ⟨c0, c1⟩ := id hS.1)))
      exact bodyPost_ret (v := .tuple #[.int .u64 (X : Int), .int .i64 E]) (by simp [results, Tryz.results172, go_sem]) rfl ⟨rfl, hS.2.2⟩
    · have h3 : ineg 64 true a = false := by rw [h1]; exact decide_eq_false hn
      have h2 : isize 64 true a = a % 18446744073709551616 := by unfold isize; rw [h3, if_neg (by decide)]
      have HC := fun W => hid (icut_64 true a ha W)
      obtain ⟨c, hc⟩ : ∃ c : Nat, c = a % 18446744073709551616 := ⟨_, rfl⟩
      rw [← hc] at HC
      rw [h3, h2, ← hc] at HR
      have hzz : ∀ W, Calls Tryz.prog 121 #[.int .i64 64, .int .u64 a] W fun e w' => ∃ z : Int, decide (z < 0) = false ∧ e = .returned (.int .i64 z) ∧ Below W.heap.size W w' := fun W => by
        obtain ⟨z, hz, h⟩ := Signed_64 a ha W
        exact h.mono fun e w' h => ⟨z, hz.trans (decide_eq_false hn), h⟩
      have HZZ := hid hzz
      clear hzz
      clear hc h2 h3 h1 hn ha
      go_enter Tryz.func172, Tryz.ntmps172
      go_wp2_with (first
        | (go_at_call 203; ((with_reducible refine (HI _).out.mono ?_); rintro e w1 ⟨rfl, hb⟩; replace hB := bnext hB hb; clear hb))
        | (go_at_call 205; ((with_reducible refine (HN _).out.mono ?_); rintro e w3 ⟨rfl, hb⟩; have hS := (Si.new 64 true hB).call hb; obtain ⟨c0, c1⟩ := id hS.1; clear hb hB))
        | (go_at_call 121; ((with_reducible refine (HZZ.out _).mono ?_); rintro e w4 ⟨z, hz, rfl, hb⟩; replace hS := hS.call hb; clear c0 c1 hb; obtain ⟨c0, c1⟩ := id hS.1))
        | (go_at_call 209; ((with_reducible refine (HC _).out.mono ?_); rintro e w4 ⟨rfl, hb⟩; replace hS := hS.call hb; clear c0 c1 hb; obtain ⟨c0, c1⟩ := id hS.1))
        | (go_at_call 239; ((with_reducible refine (HR _).out.mono ?_); rintro e w4 ⟨rfl, hb⟩; replace hS := hS.call hb; clear c0 c1 hb; obtain ⟨c0, c1⟩ := id hS.1)))
      exact bodyPost_ret (v := .tuple #[.int .u64 (X : Int), .int .i64 E]) (by simp [results, Tryz.results172, go_sem]) rfl ⟨rfl, hS.2.2⟩

theorem isize_64 (s : Bool) (a : Nat) : isize 64 s a < 18446744073709551616 := by
  unfold isize
  have h : a % 18446744073709551616 < 18446744073709551616 := Nat.mod_lt _ (by decide)
  show (if ineg 64 s a then 18446744073709551616 - a % 18446744073709551616 else a % 18446744073709551616) < 18446744073709551616
  cases hi : ineg 64 s a with
  | false => rw [if_neg (by decide)]; omega
  | true =>
    rw [if_pos rfl]
    unfold ineg at hi
    have h2 : 9223372036854775808 ≤ a % 18446744073709551616 := by cases s with
      | false => cases hi
      | true => exact of_decide_eq_true hi
    omega

theorem Convert_64_no (F : Int) (h1 : F ≠ 32) (h2 : F ≠ 64) (s : Bool) (a : Nat) (ha : a < 18446744073709551616) (w : World) :
    Say 172 #[.int .i64 64, .int .i64 F, .bool s, .int .u64 a] w (.tuple #[.int .u64 0, .int .i64 1]) :=
  Convert_64_walk F s a ha 0 1 (fun W => hid (Round_no F h1 h2 _ _ 0 false W)) w
theorem Convert_64_32 (s : Bool) (a : Nat) (ha : a < 18446744073709551616) (w : World) :
    Say 172 #[.int .i64 64, .int .i64 32, .bool s, .int .u64 a] w (.tuple #[.int .u64 ((Ieee.single.word (ineg 64 s a) (rungR Ieee.single (isize 64 s a) 0 false) : Nat) : Int), .int .i64 0]) :=
  Convert_64_walk 32 s a ha _ 0 (fun W => hid (by
    have := Round_32 (ineg 64 s a) (isize 64 s a) (isize_64 s a) 0 (by decide) (by decide) false W
    rw [if_neg (fun h => by cases h.1)] at this
    exact this)) w
theorem Convert_64_64 (s : Bool) (a : Nat) (ha : a < 18446744073709551616) (w : World) :
    Say 172 #[.int .i64 64, .int .i64 64, .bool s, .int .u64 a] w (.tuple #[.int .u64 ((Ieee.double.word (ineg 64 s a) (rungR Ieee.double (isize 64 s a) 0 false) : Nat) : Int), .int .i64 0]) :=
  Convert_64_walk 64 s a ha _ 0 (fun W => hid (by
    have := Round_64 (ineg 64 s a) (isize 64 s a) (isize_64 s a) 0 (by decide) (by decide) false W
    rw [if_neg (fun h => by cases h.1)] at this
    exact this)) w

/-- A word of one width as one of the other. -/
def resW (f : Ieee.Format) (CAN SB INF P : Nat) (low : Int) (c : Nat) : Nat := if INF < c % SB then CAN else f.word (decide (SB ≤ c)) (rungR f (wm SB INF P c) (we SB INF P low c) false)

theorem resized_NAN (F G a k C : Nat) (HK : ∀ W, Hid (Say 204 #[.int .i64 F, .int .u64 a] W (.int .i64 4))) (HC : ∀ W, Hid (Say 249 #[.int .i64 G] W (.int .u64 (C : Int)))) (w : World) :
    Say 200 #[.int .i64 F, .int .i64 G, .int .u64 a] w (.int .u64 (C : Int)) := by
  have hB : Below w.heap.size w w := Below.refl _ _
  go_enter Tryz.func200, Tryz.ntmps200
  go_wp2_with (first
    | (go_at_call 204; ((with_reducible refine (HK _).out.mono ?_); rintro e w1 ⟨rfl, hb⟩; replace hB := bnext hB hb; clear hb))
    | (go_at_call 249; ((with_reducible refine (HC _).out.mono ?_); rintro e w1 ⟨rfl, hb⟩; replace hB := bnext hB hb; clear hb)))
  go_ret
  exact ⟨rfl, hB⟩

theorem resized_num (F G a k m X : Nat) (neg : Bool) (e : Int) (hk : ((k : Int) == 4) = false) (HK : ∀ W, Hid (Say 204 #[.int .i64 F, .int .u64 a] W (.int .i64 (k : Int))))
    (HP : ∀ W, Hid (Say 206 #[.int .i64 F, .int .u64 a] W (.tuple #[.bool neg, .int .u64 (m : Int), .int .i64 e])))
    (HR : ∀ W, Hid (Say 239 #[.int .i64 G, .bool neg, .int .u64 (m : Int), .int .i64 e, .bool false] W (.tuple #[.int .u64 (X : Int), .int .i64 0]))) (w : World) :
    Say 200 #[.int .i64 F, .int .i64 G, .int .u64 a] w (.int .u64 (X : Int)) := by
  have hB : Below w.heap.size w w := Below.refl _ _
  go_enter Tryz.func200, Tryz.ntmps200
  go_wp2_with (first
    | (go_at_call 204; ((with_reducible refine (HK _).out.mono ?_); rintro e w1 ⟨rfl, hb⟩; replace hB := bnext hB hb; clear hb))
    | (go_at_call 206; ((with_reducible refine (HP _).out.mono ?_); rintro e w1 ⟨rfl, hb⟩; replace hB := bnext hB hb; clear hb))
    | (go_at_call 239; ((with_reducible refine (HR _).out.mono ?_); rintro e w1 ⟨rfl, hb⟩; replace hB := bnext hB hb; clear hb)))
  go_ret
  exact ⟨rfl, hB⟩

theorem resized_32 (a : Nat) (ha : a < 18446744073709551616) (w : World) :
    Say 200 #[.int .i64 32, .int .i64 64, .int .u64 a] w (.int .u64 ((resW Ieee.double 9221120237041090560 2147483648 2139095040 23 (-149) (a % 4294967296) : Nat) : Int)) := by
  have HK := fun W => hid (Kind_32 a ha W)
  by_cases hn : 2139095040 < a % 4294967296 % 2147483648
  · rw [kind_4 hn] at HK
    rw [show resW Ieee.double 9221120237041090560 2147483648 2139095040 23 (-149) (a % 4294967296) = 9221120237041090560 by unfold resW; rw [if_pos hn]]
    exact resized_NAN 32 64 a 4 9221120237041090560 HK (fun W => hid (Canonical_64 W)) w
  · have k4 : ((kindOf 2139095040 (a % 4294967296 % 2147483648) : Int) == 4) = false := by
      have := kind_not4 (Nat.le_of_not_lt hn)
      exact beq_eq_false_iff_ne.2 (by omega)
    rw [show resW Ieee.double 9221120237041090560 2147483648 2139095040 23 (-149) (a % 4294967296) = Ieee.double.word (decide (2147483648 ≤ a % 4294967296)) (rungR Ieee.double (wm 2147483648 2139095040 23 (a % 4294967296)) (we 2147483648 2139095040 23 (-149) (a % 4294967296)) false) by unfold resW; rw [if_neg hn]]
    by_cases hi : a % 4294967296 % 2147483648 = 2139095040
    · rw [show wm 2147483648 2139095040 23 (a % 4294967296) = 1 by unfold wm; rw [if_pos hi], show we 2147483648 2139095040 23 (-149) (a % 4294967296) = 1024 by unfold we; rw [if_pos hi]]
      refine resized_num 32 64 a _ 1 _ _ 1024 k4 HK (fun W => hid (cparts_32_inf a ha hi W)) (fun W => hid ?_) w
      have := Round_64 (decide (2147483648 ≤ a % 4294967296)) 1 (by decide) 1024 (by decide) (by decide) false W
      rw [if_neg (fun h => by cases h.1)] at this
      exact this
    · rw [show wm 2147483648 2139095040 23 (a % 4294967296) = pm 23 (a % 4294967296 % 2147483648) by unfold wm; rw [if_neg hi], show we 2147483648 2139095040 23 (-149) (a % 4294967296) = pe 23 (-149) (a % 4294967296 % 2147483648) by unfold we; rw [if_neg hi]]
      have hf : a % 4294967296 % 2147483648 < 2139095040 := by omega
      have hm := pm_lt 23 (a % 4294967296 % 2147483648)
      have he := pe_eq 23 (-149) (a % 4294967296 % 2147483648)
      have hq : a % 4294967296 % 2147483648 / 2 ^ 23 ≤ 2047 := by show a % 4294967296 % 2147483648 / 8388608 ≤ 2047; omega
      have HP := fun W => hid (cparts_32 a ha hf W)
      generalize decide (2147483648 ≤ a % 4294967296) = neg at *
      generalize pm 23 (a % 4294967296 % 2147483648) = m at *
      generalize a % 4294967296 % 2147483648 / 2 ^ 23 = q at *
      generalize pe 23 (-149) (a % 4294967296 % 2147483648) = e at *
      have hm2 : m < 18446744073709551616 := Nat.lt_trans hm (by decide)
      have he1 : -9223372036854775808 ≤ e := by clear hm2 hm HP HK k4; omega
      have he2 : e ≤ 9223372036854775807 := by clear hm2 hm HP HK k4; omega
      refine resized_num 32 64 a _ m _ _ e k4 HK HP (fun W => hid ?_) w
      have := Round_64 neg m hm2 e he1 he2 false W
      rw [if_neg (fun h => by cases h.1)] at this
      exact this

theorem Promote_any (a : Nat) (ha : a < 18446744073709551616) (w : World) :
    Say 134 #[.int .u64 a] w (.int .u64 ((resW Ieee.double 9221120237041090560 2147483648 2139095040 23 (-149) (a % 4294967296) : Nat) : Int)) := by
  have HR := fun W => hid (resized_32 a ha W)
  obtain ⟨x, hx⟩ : ∃ x : Nat, x = resW Ieee.double 9221120237041090560 2147483648 2139095040 23 (-149) (a % 4294967296) := ⟨_, rfl⟩
  rw [← hx] at HR ⊢
  clear hx ha
  go_enter Tryz.func134, Tryz.ntmps134
  go_wp2_with (first | (go_at_call 200; ((with_reducible refine (HR _).out.mono ?_); rintro e w1 ⟨rfl, hb⟩)))
  go_ret
  exact ⟨rfl, hb⟩

theorem resized_64 (a : Nat) (ha : a < 18446744073709551616) (w : World) :
    Say 200 #[.int .i64 64, .int .i64 32, .int .u64 a] w (.int .u64 ((resW Ieee.single 2143289344 9223372036854775808 9218868437227405312 52 (-1074) (a % 18446744073709551616) : Nat) : Int)) := by
  have HK := fun W => hid (Kind_64 a ha W)
  by_cases hn : 9218868437227405312 < a % 18446744073709551616 % 9223372036854775808
  · rw [kind_4 hn] at HK
    rw [show resW Ieee.single 2143289344 9223372036854775808 9218868437227405312 52 (-1074) (a % 18446744073709551616) = 2143289344 by unfold resW; rw [if_pos hn]]
    exact resized_NAN 64 32 a 4 2143289344 HK (fun W => hid (Canonical_32 W)) w
  · have k4 : ((kindOf 9218868437227405312 (a % 18446744073709551616 % 9223372036854775808) : Int) == 4) = false := by
      have := kind_not4 (Nat.le_of_not_lt hn)
      exact beq_eq_false_iff_ne.2 (by omega)
    rw [show resW Ieee.single 2143289344 9223372036854775808 9218868437227405312 52 (-1074) (a % 18446744073709551616) = Ieee.single.word (decide (9223372036854775808 ≤ a % 18446744073709551616)) (rungR Ieee.single (wm 9223372036854775808 9218868437227405312 52 (a % 18446744073709551616)) (we 9223372036854775808 9218868437227405312 52 (-1074) (a % 18446744073709551616)) false) by unfold resW; rw [if_neg hn]]
    by_cases hi : a % 18446744073709551616 % 9223372036854775808 = 9218868437227405312
    · rw [show wm 9223372036854775808 9218868437227405312 52 (a % 18446744073709551616) = 1 by unfold wm; rw [if_pos hi], show we 9223372036854775808 9218868437227405312 52 (-1074) (a % 18446744073709551616) = 1024 by unfold we; rw [if_pos hi]]
      refine resized_num 64 32 a _ 1 _ _ 1024 k4 HK (fun W => hid (cparts_64_inf a ha hi W)) (fun W => hid ?_) w
      have := Round_32 (decide (9223372036854775808 ≤ a % 18446744073709551616)) 1 (by decide) 1024 (by decide) (by decide) false W
      rw [if_neg (fun h => by cases h.1)] at this
      exact this
    · rw [show wm 9223372036854775808 9218868437227405312 52 (a % 18446744073709551616) = pm 52 (a % 18446744073709551616 % 9223372036854775808) by unfold wm; rw [if_neg hi], show we 9223372036854775808 9218868437227405312 52 (-1074) (a % 18446744073709551616) = pe 52 (-1074) (a % 18446744073709551616 % 9223372036854775808) by unfold we; rw [if_neg hi]]
      have hf : a % 18446744073709551616 % 9223372036854775808 < 9218868437227405312 := by omega
      have hm := pm_lt 52 (a % 18446744073709551616 % 9223372036854775808)
      have he := pe_eq 52 (-1074) (a % 18446744073709551616 % 9223372036854775808)
      have hq : a % 18446744073709551616 % 9223372036854775808 / 2 ^ 52 ≤ 2047 := by show a % 18446744073709551616 % 9223372036854775808 / 4503599627370496 ≤ 2047; omega
      have HP := fun W => hid (cparts_64 a ha hf W)
      generalize decide (9223372036854775808 ≤ a % 18446744073709551616) = neg at *
      generalize pm 52 (a % 18446744073709551616 % 9223372036854775808) = m at *
      generalize a % 18446744073709551616 % 9223372036854775808 / 2 ^ 52 = q at *
      generalize pe 52 (-1074) (a % 18446744073709551616 % 9223372036854775808) = e at *
      have hm2 : m < 18446744073709551616 := Nat.lt_trans hm (by decide)
      have he1 : -9223372036854775808 ≤ e := by clear hm2 hm HP HK k4; omega
      have he2 : e ≤ 9223372036854775807 := by clear hm2 hm HP HK k4; omega
      refine resized_num 64 32 a _ m _ _ e k4 HK HP (fun W => hid ?_) w
      have := Round_32 neg m hm2 e he1 he2 false W
      rw [if_neg (fun h => by cases h.1)] at this
      exact this

theorem Demote_any (a : Nat) (ha : a < 18446744073709551616) (w : World) :
    Say 133 #[.int .u64 a] w (.int .u64 ((resW Ieee.single 2143289344 9223372036854775808 9218868437227405312 52 (-1074) (a % 18446744073709551616) : Nat) : Int)) := by
  have HR := fun W => hid (resized_64 a ha W)
  obtain ⟨x, hx⟩ : ∃ x : Nat, x = resW Ieee.single 2143289344 9223372036854775808 9218868437227405312 52 (-1074) (a % 18446744073709551616) := ⟨_, rfl⟩
  rw [← hx] at HR ⊢
  clear hx ha
  go_enter Tryz.func133, Tryz.ntmps133
  go_wp2_with (first | (go_at_call 200; ((with_reducible refine (HR _).out.mono ?_); rintro e w1 ⟨rfl, hb⟩)))
  go_ret
  exact ⟨rfl, hb⟩

end Go.Proofs.YtlhakbkdlgejpaaGreatDoor.Fl
