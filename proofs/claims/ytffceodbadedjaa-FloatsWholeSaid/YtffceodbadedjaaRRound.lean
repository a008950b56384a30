/-
  The contract of the reference's Round. Condition: the number is below 2^64, the power is an int64.
-/
import Derived.Test.YtffceodbadedjaaNear64
set_option linter.unusedSimpArgs false
set_option linter.unusedVariables false
namespace Go.Proofs.Ytffceodbadedjaa
open Go.RowKit Ieee

theorem rsign_32 (w : World) : Calls Try.prog 40 #[.int .i64 32] w fun e w' => e = .returned (.int .u64 2147483648) ∧ w = w' := by
  go_enter Try.func40, Try.ntmps40
  go_wp2
  go_ret
  exact ⟨rfl, rfl⟩

theorem rsign_64 (w : World) : Calls Try.prog 40 #[.int .i64 64] w fun e w' => e = .returned (.int .u64 9223372036854775808) ∧ w = w' := by
  go_enter Try.func40, Try.ntmps40
  go_wp2
  go_ret
  exact ⟨rfl, rfl⟩

theorem RRound_no (b : Int) (h1 : b ≠ 32) (h2 : b ≠ 64) (ng : Bool) (m : Nat) (ex : Int) (more : Bool) (w : World) : Calls Try.prog 28 #[.int .i64 b, .bool ng, .int .u64 m, .int .i64 ex, .bool more] w fun e w' => e = .returned (.tuple #[.int .u64 0, .int .i64 1]) ∧ w = w' := by
  have e1 : (b != 32) = true := by simpa using h1
  have e2 : (b != 64) = true := by simpa using h2
  clear h1 h2
  go_enter Try.func28, Try.ntmps28
  go_wp2
  go_ret2
  exact ⟨rfl, rfl⟩

set_option maxHeartbeats 1600000 in
theorem RRound_32 (ng : Bool) (m : Nat) (hm : m < 18446744073709551616) (ex : Int) (he0 : -9223372036854775808 ≤ ex) (he1 : ex ≤ 9223372036854775807) (more : Bool) (w : World) :
    Calls Try.prog 28 #[.int .i64 32, .bool ng, .int .u64 m, .int .i64 ex, .bool more] w fun e w' => e = .returned (if more = true ∧ m < 288230376151711744 then .tuple #[.int .u64 0, .int .i64 1] else .tuple #[.int .u64 (((Ieee.single).word ng (rungR Ieee.single m ex more) : Nat) : Int), .int .i64 0]) ∧ w = w' := by
  obtain ⟨R, hR⟩ : ∃ R : Nat, R = (Ieee.single).word ng (rungR Ieee.single m ex more) := ⟨_, rfl⟩
  rw [← hR]
  by_cases hbad : more = true ∧ m < 288230376151711744
  · rw [if_pos hbad]
    obtain ⟨rfl, h⟩ := hbad
    have h1 : decide ((m : Int) < 288230376151711744) = true := by simp; omega
    clear hR h he0 he1
    go_enter Try.func28, Try.ntmps28
    go_wp2
    go_ret2
    exact ⟨rfl, rfl⟩
  · rw [if_neg hbad]
    have hmore : more = true → 288230376151711744 ≤ m := fun h => by
      rcases Nat.lt_or_ge m 288230376151711744 with h2 | h2
      · exact absurd ⟨h, h2⟩ hbad
      · exact h2
    obtain ⟨r, hr⟩ : ∃ r : Nat, r = rungR Ieee.single m ex more := ⟨_, rfl⟩
    have hrb : r ≤ 2139095040 := by
      rw [hr]; unfold rungR rungOf
      split
      · omega
      · exact Nat.min_le_right _ _
    have hR2 : R = (if ng then 2147483648 else 0) + r := by
      rw [hR, ← hr]; unfold Ieee.Format.word; cases ng
      · simp
      · rfl
    have hmo : more = false ∨ more = true ∧ decide ((m : Int) < 288230376151711744) = false := by
      cases more with
      | false => exact .inl rfl
      | true => right; exact ⟨rfl, by have := hmore rfl; simp; omega⟩
    by_cases h0 : m = 0
    · have hr0 : r = 0 := by
        have : more = false := by
          cases more with
          | false => rfl
          | true => have := hmore rfl; omega
        rw [hr, this, h0, rungR_false]; rfl
      subst hr0
      subst h0
      have hmf : more = false := by
        cases more with
        | false => rfl
        | true => have := hmore rfl; omega
      subst hmf
      clear hR hr hrb hmore hmo hbad he0 he1 hm
      cases ng with
      | false =>
        have : R = 0 := hR2
        subst this
        clear hR2
        go_enter Try.func28, Try.ntmps28
        go_wp2
        go_ret2
        exact ⟨rfl, rfl⟩
      | true =>
        have : R = 2147483648 := hR2
        subst this
        clear hR2
        go_enter Try.func28, Try.ntmps28
        go_wp2_with (go_at_call 40; refine (rsign_32 _).mono ?_; rintro e w1 ⟨rfl, rfl⟩)
        go_ret2
        exact ⟨rfl, rfl⟩
    · have HN := hid (near_32 m h0 hm ex he0 he1 more hmore w)
      rw [← hr] at HN
      have g1 : decide ((0 : Int) < (m : Int)) = true := by simp; omega
      have g2 : decide (0 < m) = true := by simp; omega
      have g3 : (0 : Int) < (m : Int) := by omega
      clear hR hr hmore hbad he0 he1 hm h0
      cases ng with
      | false =>
        have : R = r := by rw [hR2]; simp
        subst this
        clear hR2 hrb
        rcases hmo with rfl | ⟨rfl, h1⟩
        all_goals
          go_enter Try.func28, Try.ntmps28
          go_wp2_with (go_at_call 58; (with_reducible refine HN.out.mono ?_); rintro e w1 ⟨rfl, rfl⟩)
          go_ret2
          exact ⟨rfl, rfl⟩
      | true =>
        have hs : (r : Int) + 2147483648 = (R : Int) := by
          have h9 : R = 2147483648 + r := hR2
          omega
        have hw : IntKind.u64.wrap (R : Int) = (R : Int) := by rw [IntKind.wrap_u64]; omega
        clear hR2 hrb
        rcases hmo with rfl | ⟨rfl, h1⟩
        all_goals
          go_enter Try.func28, Try.ntmps28
          go_wp2_with (first
            | (go_at_call 58; ((with_reducible refine HN.out.mono ?_); rintro e w1 ⟨rfl, rfl⟩))
            | (go_at_call 40; ((with_reducible refine (rsign_32 _).mono ?_); rintro e w1 ⟨rfl, rfl⟩)))
          go_ret2
          exact ⟨rfl, rfl⟩

set_option maxHeartbeats 1600000 in
theorem RRound_64 (ng : Bool) (m : Nat) (hm : m < 18446744073709551616) (ex : Int) (he0 : -9223372036854775808 ≤ ex) (he1 : ex ≤ 9223372036854775807) (more : Bool) (w : World) :
    Calls Try.prog 28 #[.int .i64 64, .bool ng, .int .u64 m, .int .i64 ex, .bool more] w fun e w' => e = .returned (if more = true ∧ m < 288230376151711744 then .tuple #[.int .u64 0, .int .i64 1] else .tuple #[.int .u64 (((Ieee.double).word ng (rungR Ieee.double m ex more) : Nat) : Int), .int .i64 0]) ∧ w = w' := by
  obtain ⟨R, hR⟩ : ∃ R : Nat, R = (Ieee.double).word ng (rungR Ieee.double m ex more) := ⟨_, rfl⟩
  rw [← hR]
  by_cases hbad : more = true ∧ m < 288230376151711744
  · rw [if_pos hbad]
    obtain ⟨rfl, h⟩ := hbad
    have h1 : decide ((m : Int) < 288230376151711744) = true := by simp; omega
    clear hR h he0 he1
    go_enter Try.func28, Try.ntmps28
    go_wp2
    go_ret2
    exact ⟨rfl, rfl⟩
  · rw [if_neg hbad]
    have hmore : more = true → 288230376151711744 ≤ m := fun h => by
      rcases Nat.lt_or_ge m 288230376151711744 with h2 | h2
      · exact absurd ⟨h, h2⟩ hbad
      · exact h2
    obtain ⟨r, hr⟩ : ∃ r : Nat, r = rungR Ieee.double m ex more := ⟨_, rfl⟩
    have hrb : r ≤ 9218868437227405312 := by
      rw [hr]; unfold rungR rungOf
      split
      · omega
      · exact Nat.min_le_right _ _
    have hR2 : R = (if ng then 9223372036854775808 else 0) + r := by
      rw [hR, ← hr]; unfold Ieee.Format.word; cases ng
      · simp
      · rfl
    have hmo : more = false ∨ more = true ∧ decide ((m : Int) < 288230376151711744) = false := by
      cases more with
      | false => exact .inl rfl
      | true => right; exact ⟨rfl, by have := hmore rfl; simp; omega⟩
    by_cases h0 : m = 0
    · have hr0 : r = 0 := by
        have : more = false := by
          cases more with
          | false => rfl
          | true => have := hmore rfl; omega
        rw [hr, this, h0, rungR_false]; rfl
      subst hr0
      subst h0
      have hmf : more = false := by
        cases more with
        | false => rfl
        | true => have := hmore rfl; omega
      subst hmf
      clear hR hr hrb hmore hmo hbad he0 he1 hm
      cases ng with
      | false =>
        have : R = 0 := hR2
        subst this
        clear hR2
        go_enter Try.func28, Try.ntmps28
        go_wp2
        go_ret2
        exact ⟨rfl, rfl⟩
      | true =>
        have : R = 9223372036854775808 := hR2
        subst this
        clear hR2
        go_enter Try.func28, Try.ntmps28
        go_wp2_with (go_at_call 40; refine (rsign_64 _).mono ?_; rintro e w1 ⟨rfl, rfl⟩)
        go_ret2
        exact ⟨rfl, rfl⟩
    · have HN := hid (near_64 m h0 hm ex he0 he1 more hmore w)
      rw [← hr] at HN
      have g1 : decide ((0 : Int) < (m : Int)) = true := by simp; omega
      have g2 : decide (0 < m) = true := by simp; omega
      have g3 : (0 : Int) < (m : Int) := by omega
      clear hR hr hmore hbad he0 he1 hm h0
      cases ng with
      | false =>
        have : R = r := by rw [hR2]; simp
        subst this
        clear hR2 hrb
        rcases hmo with rfl | ⟨rfl, h1⟩
        all_goals
          go_enter Try.func28, Try.ntmps28
          go_wp2_with (go_at_call 58; (with_reducible refine HN.out.mono ?_); rintro e w1 ⟨rfl, rfl⟩)
          go_ret2
          exact ⟨rfl, rfl⟩
      | true =>
        have hs : (r : Int) + 9223372036854775808 = (R : Int) := by
          have h9 : R = 9223372036854775808 + r := hR2
          omega
        have hw : IntKind.u64.wrap (R : Int) = (R : Int) := by rw [IntKind.wrap_u64]; omega
        clear hR2 hrb
        rcases hmo with rfl | ⟨rfl, h1⟩
        all_goals
          go_enter Try.func28, Try.ntmps28
          go_wp2_with (first
            | (go_at_call 58; ((with_reducible refine HN.out.mono ?_); rintro e w1 ⟨rfl, rfl⟩))
            | (go_at_call 40; ((with_reducible refine (rsign_64 _).mono ?_); rintro e w1 ⟨rfl, rfl⟩)))
          go_ret2
          exact ⟨rfl, rfl⟩

end Go.Proofs.Ytffceodbadedjaa
