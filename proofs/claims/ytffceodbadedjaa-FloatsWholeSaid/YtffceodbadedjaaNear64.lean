/-
  The contract of the reference's near, for 64 bits. Condition: the number is below 2^64, the power is an int64.
-/
import Derived.Test.YtffceodbadedjaaNear
set_option linter.unusedSimpArgs false
set_option linter.unusedVariables false
namespace Go.Proofs.Ytffceodbadedjaa
open Go.RowKit Ieee

/-- The state of near's first loop. -/
def NL64 (m : Nat) (e : Int) (mo : Bool) (k : Nat) : Prop := (k = 0 ∨ 9007199254740992 ≤ m / 2 ^ (k - 1) ∨ e + k - 1 < -1074) ∧ k ≤ 3100

set_option maxRecDepth 20000 in
set_option maxHeartbeats 25600000 in
theorem near_64 (m : Nat) (hm0 : m ≠ 0) (hm : m < 18446744073709551616) (e : Int) (he0 : -9223372036854775808 ≤ e) (he1 : e ≤ 9223372036854775807) (mo : Bool) (hmo : mo = true → 288230376151711744 ≤ m) (w : World) :
    Calls Try.prog 58 #[.int .u64 m, .int .i64 e, .bool mo, .int .i64 52, .int .i64 (-1074), .int .u64 9218868437227405312] w fun r w' => r = .returned (.int .u64 ((rungR Ieee.double m e mo : Nat) : Int)) ∧ w = w' := by
  obtain ⟨R, hR⟩ : ∃ R : Nat, R = rungR Ieee.double m e mo := ⟨_, rfl⟩
  rw [← hR]
  by_cases hbig : 3000 < e
  · have hR2 : R = 9218868437227405312 := by rw [hR, rungR_big (by unfold Okf; simp) hm0 (by omega)]; rfl
    subst hR2
    have b1 : decide ((3000 : Int) < e) = true := by simp [hbig]
    clear hR hmo hm hm0
    go_enter Try.func58, Try.ntmps58
    go_wp2
    go_ret
    exact ⟨rfl, rfl⟩
  · have b1 : decide ((3000 : Int) < e) = false := by simp; omega
    by_cases hsm : e < -3000
    · have hR2 : R = 0 := by rw [hR, rungR_small (by unfold Okf; simp) hm (by omega)]
      subst hR2
      have b2 : decide (e < (-3000 : Int)) = true := by simp [hsm]
      clear hR hmo hm hm0
      go_enter Try.func58, Try.ntmps58
      go_wp2
      go_ret
      exact ⟨rfl, rfl⟩
    · have b2 : decide (e < (-3000 : Int)) = false := by simp; omega
      obtain ⟨M, hM⟩ : ∃ M : Nat, M = 4 * m + mo.toNat := ⟨_, rfl⟩
      have HMM := hid hM
      have HM := hid hm
      have HM0 := hid hm0
      have HMO := hid hmo
      have HRR := hid hR
      have HE := hid (show -3000 ≤ e ∧ e ≤ 3000 by omega)
      clear hR hmo hm hm0 he0 he1 hbig hsm hM
      go_enter Try.func58, Try.ntmps58
      go_upto_if 21 with fail
      go_cut [13] (fun s13 wx => s13 = .int .i64 ((restF M 0 : Nat) : Int) ∧ w = wx)
      case first =>
        have HR0 : Hid (restF M 0 = mo.toNat) := hid (by rw [HMM.out, rest_zero])
        cases mo with
        | true =>
          go_wp2
          go_meet
          exact ⟨by rw [HR0.out]; rfl, rfl⟩
        | false =>
          go_wp2
          go_meet
          exact ⟨by rw [HR0.out]; rfl, rfl⟩
      case rest =>
        obtain ⟨rfl, rfl⟩ := hcut
        clear b1 b2
        go_wp2
        go_loop [0, 1, 13] (fun vm ve vr => ∃ k : Nat, NL64 m e mo k ∧ vm = .int .u64 ((m / 2 ^ k : Nat) : Int) ∧ ve = .int .i64 (e + k) ∧ vr = .int .i64 ((restF M k : Nat) : Int)) (fun _ ve _ => (10000 - intOf ve).toNat)
        case atStart => exact ⟨0, ⟨.inl rfl, by omega⟩, by simp, by simp, rfl⟩
        case round =>
          obtain ⟨k, hNL, rfl, rfl, rfl⟩ := hrel
          have hst := rest_step M k
          have hd4 := div_four m k mo
          rw [← HMM.out] at hd4
          rw [hd4] at hst
          have hdn := div_next m k
          have hr3 := rest_lt M k
          have hxm : m / 2 ^ k ≤ m := Nat.div_le_self _ _
          have hmid := fun h1 h2 => near_mid fmt_double HM0.out e mo HMO.out (k := k) h1 h2 hNL.1
          rw [← HMM.out] at hmid
          obtain ⟨x, hx⟩ : ∃ x : Nat, x = m / 2 ^ k := ⟨_, rfl⟩
          obtain ⟨x2, hx2⟩ : ∃ x2 : Nat, x2 = m / 2 ^ (k + 1) := ⟨_, rfl⟩
          obtain ⟨q, hq⟩ : ∃ q : Nat, q = restF M k := ⟨_, rfl⟩
          obtain ⟨ek, hek⟩ : ∃ ek : Int, ek = e + k := ⟨_, rfl⟩
          rw [← hq, ← hx] at hst
          rw [← hx, ← hx2] at hdn
          rw [← hx] at hxm
          rw [← hq] at hr3
          rw [← hx, ← hq, ← hek]
          have hE := HE.out
          have hmm := HM.out
          have hekb : -3000 ≤ ek ∧ ek ≤ 6200 := by have := hNL.2; omega
          have HEKB := hid hekb
          by_cases hgo : 9007199254740992 ≤ x ∨ ek < -1074
          · have hNL2 : NL64 m e mo (k + 1) := by
              refine ⟨.inr ?_, ?_⟩
              · rw [show k + 1 - 1 = k by omega, ← hx]
                rcases hgo with h | h
                · exact .inl h
                · exact .inr (by omega)
              · rcases hgo with h | h
                · have : k < 64 := by
                    rcases Nat.lt_or_ge k 64 with h2 | h2
                    · exact h2
                    · have h3 : (2 : Nat) ^ 64 ≤ 2 ^ k := Nat.pow_le_pow_right (by decide) h2
                      have h4 : (2 : Nat) ^ 64 = 18446744073709551616 := by decide
                      rw [hx, Nat.div_eq_of_lt (by omega)] at h
                      omega
                  omega
                · omega
            have HNL2 := hid hNL2
            have f1 : (x : Int) / 2 = (x2 : Int) := by omega
            have f5 : IntKind.u64.wrap (x2 : Int) = (x2 : Int) := by rw [IntKind.wrap_u64]; omega
            have f2 : wrap64 (ek + 1) = ek + 1 := by unfold wrap64; omega
            have HK : Hid (ek + 1 = e + ((k + 1 : Nat) : Int)) := hid (by omega)
            obtain ⟨lo, hlo⟩ : ∃ lo : Nat, lo = x % 2 := ⟨_, rfl⟩
            have f3 : (x : Int) % 2 = (lo : Int) := by omega
            have hlo2 : lo < 2 := by omega
            have f4 : wrap64 (lo : Int) = (lo : Int) := by unfold wrap64; omega
            rw [← hlo] at hst
            -- what the rest becomes
            obtain ⟨q2, hq2⟩ : ∃ q2 : Nat, q2 = restF M (k + 1) := ⟨_, rfl⟩
            rw [← hq2] at hst
            have HQ2 := hid hq2
            have HX2 := hid hx2
            have zero2 : x2 = 0 → ek + 1 < -1074 - 1 → R = 0 := by
              intro h1 h2
              rw [HRR.out]
              have hM0 := HM0.out
              have hlt : m < 2 ^ (k + 1) := by
                rcases Nat.lt_or_ge m (2 ^ (k + 1)) with h | h
                · exact h
                · have := Nat.div_pos h (Nat.two_pow_pos _); omega
              have hmol : mo = false ∨ mo = true ∧ 288230376151711744 ≤ m := by
                cases mo with
                | false => exact .inl rfl
                | true => exact .inr ⟨rfl, HMO.out rfl⟩
              have hb := Bool.toNat_le mo
              have hlog : m.log2 < k + 1 := log2_lt_of hM0 hlt
              unfold rungR rungOf
              have hN : 2 * m + mo.toNat ≠ 0 := by omega
              have hlog2 : (2 * m + mo.toNat).log2 < k + 2 := log2_lt_of hN (by rw [Nat.pow_succ]; omega)
              have hL : lastP Ieee.double (2 * m + mo.toNat) (e - 1) = -1074 := by
                unfold lastP
                show max (e - 1 + ((2 * m + mo.toNat).log2 : Int) - 52) (-1074) = -1074
                omega
              rw [if_neg hN, hL]
              have hz : rneI (2 * m + mo.toNat) ((-1074) - (e - 1)) = 0 := by
                unfold rneI
                rw [if_pos (by omega), rne_big]
                have h5 : (2 : Nat) ^ (k + 3) ≤ 2 ^ ((-1074) - (e - 1)).toNat := Nat.pow_le_pow_right (by decide) (by omega)
                have h6 : (2 : Nat) ^ (k + 3) = 4 * 2 ^ (k + 1) := by rw [show k + 3 = k + 1 + 2 by omega, Nat.pow_add]; omega
                omega
              rw [hz]
              rfl
            have HZ2 := hid zero2
            clear zero2 hNL2 hNL hmid hd4 hx hx2 hq hq2 hek hxm hE hmm
            by_cases hg : 9007199254740992 ≤ x
            · have g1 : decide (9007199254740992 ≤ x) = true := by simp [hg]
              have g2 : decide ((9007199254740992 : Int) ≤ (x : Int)) = true := by simp; omega
              have e1 : ((x2 : Int) == 0) = false := by simp; omega
              clear hg hgo hdn hekb
              have hl4 : lo = 0 ∧ 1 < q ∨ lo = 0 ∧ q ≤ 1 ∨ lo = 1 ∧ q = 0 ∨ lo = 1 ∧ q ≠ 0 := by omega
              rcases hl4 with ⟨rfl, hq⟩ | ⟨rfl, hq⟩ | ⟨rfl, hq⟩ | ⟨rfl, hq⟩
              · have hqq : q2 = 1 := by rw [hst, if_neg (by decide), if_pos hq]
                have q1 : decide ((1 : Int) < (q : Int)) = true := by simp; omega
                subst hqq
                clear hq hst hlo hlo2 hr3
                all_goals
                  go_wp2
                  go_round
                  case rel => exact ⟨k + 1, HNL2.out, by rw [← HX2.out], by rw [← HK.out]; try rw [f2], by rw [← HQ2.out]; try rfl⟩
                  case measure => simp [intOf]; have := HEKB.out; (try rw [f2]); omega
              · have hqq : q2 = q := by rw [hst, if_neg (by decide), if_neg (by omega)]
                have q1 : decide ((1 : Int) < (q : Int)) = false := by simp; omega
                subst hqq
                clear hq hst hlo hlo2 hr3
                all_goals
                  go_wp2
                  go_round
                  case rel => exact ⟨k + 1, HNL2.out, by rw [← HX2.out], by rw [← HK.out]; try rw [f2], by rw [← HQ2.out]; try rfl⟩
                  case measure => simp [intOf]; have := HEKB.out; (try rw [f2]); omega
              · subst hq
                have hqq : q2 = 2 := by rw [hst]; rfl
                subst hqq
                clear hst hlo hlo2 hr3
                all_goals
                  go_wp2
                  go_round
                  case rel => exact ⟨k + 1, HNL2.out, by rw [← HX2.out], by rw [← HK.out]; try rw [f2], by rw [← HQ2.out]; try rfl⟩
                  case measure => simp [intOf]; have := HEKB.out; (try rw [f2]); omega
              · have hqq : q2 = 3 := by rw [hst, if_pos rfl, if_neg hq]
                have q1 : ((q : Int) == 0) = false := by simp; omega
                subst hqq
                clear hq hst hlo hlo2 hr3
                all_goals
                  go_wp2
                  go_round
                  case rel => exact ⟨k + 1, HNL2.out, by rw [← HX2.out], by rw [← HK.out]; try rw [f2], by rw [← HQ2.out]; try rfl⟩
                  case measure => simp [intOf]; have := HEKB.out; (try rw [f2]); omega
            · have g1 : decide (9007199254740992 ≤ x) = false := by simp; omega
              have g2 : decide ((9007199254740992 : Int) ≤ (x : Int)) = false := by simp; omega
              have g3 : decide (ek < (-1074 : Int)) = true := by simp; omega
              by_cases hz : x2 = 0
              · subst hz
                by_cases hret : ek + 1 < -1074 - 1
                · have hR0 := HZ2.out rfl hret
                  have g4 : decide (ek + 1 < (-1075 : Int)) = true := by simp; omega
                  subst hR0
                  clear hg hgo hdn hekb hret
                  have hl4 : lo = 0 ∧ 1 < q ∨ lo = 0 ∧ q ≤ 1 ∨ lo = 1 ∧ q = 0 ∨ lo = 1 ∧ q ≠ 0 := by omega
                  rcases hl4 with ⟨rfl, hq⟩ | ⟨rfl, hq⟩ | ⟨rfl, hq⟩ | ⟨rfl, hq⟩
                  · have hqq : q2 = 1 := by rw [hst, if_neg (by decide), if_pos hq]
                    have q1 : decide ((1 : Int) < (q : Int)) = true := by simp; omega
                    subst hqq
                    clear hq hst hlo hlo2 hr3
                    all_goals
                      go_wp2
                      go_ret
                      exact ⟨rfl, rfl⟩
                  · have hqq : q2 = q := by rw [hst, if_neg (by decide), if_neg (by omega)]
                    have q1 : decide ((1 : Int) < (q : Int)) = false := by simp; omega
                    subst hqq
                    clear hq hst hlo hlo2 hr3
                    all_goals
                      go_wp2
                      go_ret
                      exact ⟨rfl, rfl⟩
                  · subst hq
                    have hqq : q2 = 2 := by rw [hst]; rfl
                    subst hqq
                    clear hst hlo hlo2 hr3
                    all_goals
                      go_wp2
                      go_ret
                      exact ⟨rfl, rfl⟩
                  · have hqq : q2 = 3 := by rw [hst, if_pos rfl, if_neg hq]
                    have q1 : ((q : Int) == 0) = false := by simp; omega
                    subst hqq
                    clear hq hst hlo hlo2 hr3
                    all_goals
                      go_wp2
                      go_ret
                      exact ⟨rfl, rfl⟩
                · have g4 : decide (ek + 1 < (-1075 : Int)) = false := by simp; omega
                  clear hg hgo hdn hekb hret
                  have hl4 : lo = 0 ∧ 1 < q ∨ lo = 0 ∧ q ≤ 1 ∨ lo = 1 ∧ q = 0 ∨ lo = 1 ∧ q ≠ 0 := by omega
                  rcases hl4 with ⟨rfl, hq⟩ | ⟨rfl, hq⟩ | ⟨rfl, hq⟩ | ⟨rfl, hq⟩
                  · have hqq : q2 = 1 := by rw [hst, if_neg (by decide), if_pos hq]
                    have q1 : decide ((1 : Int) < (q : Int)) = true := by simp; omega
                    subst hqq
                    clear hq hst hlo hlo2 hr3
                    all_goals
                      go_wp2
                      go_round
                      case rel => exact ⟨k + 1, HNL2.out, by rw [← HX2.out]; try rfl, by rw [← HK.out]; try rw [f2], by rw [← HQ2.out]; try rfl⟩
                      case measure => simp [intOf]; have := HEKB.out; (try rw [f2]); omega
                  · have hqq : q2 = q := by rw [hst, if_neg (by decide), if_neg (by omega)]
                    have q1 : decide ((1 : Int) < (q : Int)) = false := by simp; omega
                    subst hqq
                    clear hq hst hlo hlo2 hr3
                    all_goals
                      go_wp2
                      go_round
                      case rel => exact ⟨k + 1, HNL2.out, by rw [← HX2.out]; try rfl, by rw [← HK.out]; try rw [f2], by rw [← HQ2.out]; try rfl⟩
                      case measure => simp [intOf]; have := HEKB.out; (try rw [f2]); omega
                  · subst hq
                    have hqq : q2 = 2 := by rw [hst]; rfl
                    subst hqq
                    clear hst hlo hlo2 hr3
                    all_goals
                      go_wp2
                      go_round
                      case rel => exact ⟨k + 1, HNL2.out, by rw [← HX2.out]; try rfl, by rw [← HK.out]; try rw [f2], by rw [← HQ2.out]; try rfl⟩
                      case measure => simp [intOf]; have := HEKB.out; (try rw [f2]); omega
                  · have hqq : q2 = 3 := by rw [hst, if_pos rfl, if_neg hq]
                    have q1 : ((q : Int) == 0) = false := by simp; omega
                    subst hqq
                    clear hq hst hlo hlo2 hr3
                    all_goals
                      go_wp2
                      go_round
                      case rel => exact ⟨k + 1, HNL2.out, by rw [← HX2.out]; try rfl, by rw [← HK.out]; try rw [f2], by rw [← HQ2.out]; try rfl⟩
                      case measure => simp [intOf]; have := HEKB.out; (try rw [f2]); omega
              · have e1 : ((x2 : Int) == 0) = false := by simp; omega
                clear hg hgo hdn hekb hz
                have hl4 : lo = 0 ∧ 1 < q ∨ lo = 0 ∧ q ≤ 1 ∨ lo = 1 ∧ q = 0 ∨ lo = 1 ∧ q ≠ 0 := by omega
                rcases hl4 with ⟨rfl, hq⟩ | ⟨rfl, hq⟩ | ⟨rfl, hq⟩ | ⟨rfl, hq⟩
                · have hqq : q2 = 1 := by rw [hst, if_neg (by decide), if_pos hq]
                  have q1 : decide ((1 : Int) < (q : Int)) = true := by simp; omega
                  subst hqq
                  clear hq hst hlo hlo2 hr3
                  all_goals
                    go_wp2
                    go_round
                    case rel => exact ⟨k + 1, HNL2.out, by rw [← HX2.out], by rw [← HK.out]; try rw [f2], by rw [← HQ2.out]; try rfl⟩
                    case measure => simp [intOf]; have := HEKB.out; (try rw [f2]); omega
                · have hqq : q2 = q := by rw [hst, if_neg (by decide), if_neg (by omega)]
                  have q1 : decide ((1 : Int) < (q : Int)) = false := by simp; omega
                  subst hqq
                  clear hq hst hlo hlo2 hr3
                  all_goals
                    go_wp2
                    go_round
                    case rel => exact ⟨k + 1, HNL2.out, by rw [← HX2.out], by rw [← HK.out]; try rw [f2], by rw [← HQ2.out]; try rfl⟩
                    case measure => simp [intOf]; have := HEKB.out; (try rw [f2]); omega
                · subst hq
                  have hqq : q2 = 2 := by rw [hst]; rfl
                  subst hqq
                  clear hst hlo hlo2 hr3
                  all_goals
                    go_wp2
                    go_round
                    case rel => exact ⟨k + 1, HNL2.out, by rw [← HX2.out], by rw [← HK.out]; try rw [f2], by rw [← HQ2.out]; try rfl⟩
                    case measure => simp [intOf]; have := HEKB.out; (try rw [f2]); omega
                · have hqq : q2 = 3 := by rw [hst, if_pos rfl, if_neg hq]
                  have q1 : ((q : Int) == 0) = false := by simp; omega
                  subst hqq
                  clear hq hst hlo hlo2 hr3
                  all_goals
                    go_wp2
                    go_round
                    case rel => exact ⟨k + 1, HNL2.out, by rw [← HX2.out], by rw [← HK.out]; try rw [f2], by rw [← HQ2.out]; try rfl⟩
                    case measure => simp [intOf]; have := HEKB.out; (try rw [f2]); omega
          · have g1 : decide (9007199254740992 ≤ x) = false := by simp; omega
            have g2 : decide ((9007199254740992 : Int) ≤ (x : Int)) = false := by simp; omega
            have g3 : decide (ek < (-1074 : Int)) = false := by simp; omega
            have hS := hmid (by rw [← hx]; show x < 9007199254740992; omega) (by omega)
            rw [← hx, ← hq, ← hek] at hS
            obtain ⟨y, hy⟩ : ∃ y : Nat, y = x + if q = 3 ∨ (q = 2 ∧ x % 2 = 1) then 1 else 0 := ⟨_, rfl⟩
            rw [← hy] at hS
            have HS := hid hS
            have HY := hid hy
            have HXB := hid (show x < 9007199254740992 by omega)
            clear hS hmid hst hd4 hdn hxm hx hx2 hq hek hy hE hmm hgo hNL hekb
            go_upto_region 20 with fail
            go_cut [67] (fun s67 wx => s67 = .bool (decide (q = 3 ∨ (q = 2 ∧ x % 2 = 1))) ∧ w = wx)
            case first =>
              have f3 : (x : Int) % 2 = ((x % 2 : Nat) : Int) := by omega
              obtain ⟨lo, hlo⟩ : ∃ lo : Nat, lo = x % 2 := ⟨_, rfl⟩
              rw [← hlo] at f3
              have hlo2 : lo = 0 ∨ lo = 1 := by omega
              have HLO := hid hlo
              clear g1 g2 g3 hlo
              have hq4 : q = 0 ∨ q = 1 ∨ q = 2 ∨ q = 3 := by omega
              rcases hq4 with rfl | rfl | rfl | rfl
              · go_wp2
                go_meet
                exact ⟨congrArg Value.bool (by simp), rfl⟩
              · go_wp2
                go_meet
                exact ⟨congrArg Value.bool (by simp), rfl⟩
              · rcases hlo2 with rfl | rfl
                · go_wp2
                  go_meet
                  exact ⟨congrArg Value.bool (by rw [← HLO.out]; rfl), rfl⟩
                · go_wp2
                  go_meet
                  exact ⟨congrArg Value.bool (by rw [← HLO.out]; rfl), rfl⟩
              · go_wp2
                go_meet
                exact ⟨congrArg Value.bool (by simp), rfl⟩
            case rest =>
              obtain ⟨rfl, rfl⟩ := hcut
              clear g1 g2 g3
              go_upto_if 67 with fail
              go_cut [0] (fun s0 wx => s0 = .int .u64 y ∧ w = wx)
              case first =>
                have fw : IntKind.u64.wrap ((x : Int) + 1) = (x : Int) + 1 := by have := HXB.out; rw [IntKind.wrap_u64]; omega
                by_cases hc : q = 3 ∨ (q = 2 ∧ x % 2 = 1)
                · rw [show decide (q = 3 ∨ (q = 2 ∧ x % 2 = 1)) = true by simp [hc]]
                  have hy : Hid (y = x + 1) := hid (by rw [HY.out, if_pos hc])
                  clear hc
                  go_wp2
                  go_meet
                  exact ⟨by rw [hy.out]; rfl, rfl⟩
                · rw [show decide (q = 3 ∨ (q = 2 ∧ x % 2 = 1)) = false by simp [hc]]
                  have hy : Hid (y = x) := hid (by rw [HY.out, if_neg hc]; rfl)
                  clear hc
                  go_wp2
                  go_meet
                  exact ⟨by rw [hy.out], rfl⟩
              case rest =>
                obtain ⟨rfl, rfl⟩ := hcut
                go_wp2
                go_loop [0, 1] (fun vm ve => ∃ (mm : Nat) (ee : Int), NearS 52 (-1074) m e mo mm ee ∧ ee ≤ 6300 ∧ vm = .int .u64 mm ∧ ve = .int .i64 ee) (fun _ ve => (intOf ve + 10000).toNat)
                case atStart => exact ⟨y, ek, HS.out, by have := HEKB.out; omega, rfl, rfl⟩
                case round =>
                  obtain ⟨mm, ee, hNS, hee, rfl, rfl⟩ := hrel
                  have hlow : -1074 ≤ ee := hNS.2.1
                  have hmb : mm ≤ 9007199254740992 := hNS.1
                  by_cases hstep : mm < 4503599627370496 ∧ -1074 < ee
                  · have hN2 := near_step HM0.out hNS hstep.1 hstep.2
                    obtain ⟨m2, hm2⟩ : ∃ m2 : Nat, m2 = mm * 2 := ⟨_, rfl⟩
                    rw [← hm2] at hN2
                    have f1 : (mm : Int) * 2 = (m2 : Int) := by omega
                    have f2 : IntKind.u64.wrap (m2 : Int) = (m2 : Int) := by rw [IntKind.wrap_u64]; omega
                    have f3 : wrap64 (ee - 1) = ee - 1 := by unfold wrap64; omega
                    have g1 : decide (mm < 4503599627370496) = true := by simp; omega
                    have g2 : decide ((mm : Int) < 4503599627370496) = true := by simp; omega
                    have g3 : decide ((-1074) < ee) = true := by simp; omega
                    have HN2 := hid hN2
                    have HB := hid (show ee ≤ 6300 ∧ -1074 ≤ ee from ⟨hee, hlow⟩)
                    clear hN2 hm2 hstep hmb hNS
                    go_wp2
                    go_round
                    case rel => exact ⟨m2, ee - 1, HN2.out, by have := HB.out; omega, rfl, by first | rfl | rw [f3]⟩
                    case measure => simp [intOf]; have := HB.out; (try rw [f3]); omega
                  · have hend := near_end fmt_double HM0.out HMO.out hNS (by show 4503599627370496 ≤ mm ∨ ee ≤ -1074; omega)
                    rw [← HRR.out] at hend
                    obtain ⟨hR, -, -⟩ := hend
                    have hR2 : R = min ((ee - (-1074)).toNat * 4503599627370496 + mm) 9218868437227405312 := hR
                    have HR2 := hid hR2
                    have HB2 := hid (show mm ≤ 9007199254740992 ∧ -1074 ≤ ee ∧ ee ≤ 6300 ∧ (mm < 4503599627370496 → ee = -1074) from ⟨hmb, hlow, hee, by omega⟩)
                    clear hR hR2 hNS hstep hlow hmb hee
                    by_cases hA1 : mm < 4503599627370496
                    · have hel : ee = -1074 := HB2.out.2.2.2 hA1
                      subst hel
                      have hRm : R = mm := by
                        have h := HR2.out
                        rw [h]
                        have hz : ((-1074 : Int) - (-1074)).toNat = 0 := by omega
                        rw [hz, Nat.zero_mul, Nat.zero_add]
                        apply Nat.min_eq_left; omega
                      subst hRm
                      have g1 : decide (R < 4503599627370496) = true := by simp; omega
                      have g2 : decide ((R : Int) < 4503599627370496) = true := by simp; omega
                      have g3 : decide (9007199254740992 ≤ R) = false := by simp; omega
                      have g4 : decide ((9007199254740992 : Int) ≤ (R : Int)) = false := by simp; omega
                      clear hA1
                      go_wp2
                      go_ret
                      exact ⟨rfl, rfl⟩
                    · have g1 : decide (mm < 4503599627370496) = false := by simp; omega
                      have g2 : decide ((mm : Int) < 4503599627370496) = false := by simp; omega
                      by_cases hB : mm < 9007199254740992
                      · have g3 : decide (9007199254740992 ≤ mm) = false := by simp; omega
                        have g4 : decide ((9007199254740992 : Int) ≤ (mm : Int)) = false := by simp; omega
                        obtain ⟨Z, hZ⟩ : ∃ Z : Nat, ee - (-1074) = (Z : Int) := ⟨(ee - (-1074)).toNat, by have := HB2.out; omega⟩
                        have hZ2 : ee + 1074 = (Z : Int) := by omega
                        have hRZ : R = min (Z * 4503599627370496 + mm) 9218868437227405312 := by
                          have h := HR2.out
                          rw [hZ, Int.toNat_natCast] at h
                          exact h
                        have hZb : Z ≤ 7500 := by have := HB2.out; omega
                        have w1 : wrap64 (Z : Int) = (Z : Int) := by unfold wrap64; omega
                        have w2 : IntKind.u64.wrap (Z : Int) = (Z : Int) := by rw [IntKind.wrap_u64]; omega
                        clear hA1
                        by_cases hbig : 3000 < Z
                        · have hRi : R = 9218868437227405312 := by rw [hRZ]; apply Nat.min_eq_right; omega
                          have g5 : decide ((3000 : Int) < (Z : Int)) = true := by simp; omega
                          have g6 : decide (3000 < Z) = true := by simp; omega
                          subst hRi
                          clear hRZ hbig hZb
                          go_wp2
                          go_ret
                          exact ⟨rfl, rfl⟩
                        · have g5 : decide ((3000 : Int) < (Z : Int)) = false := by simp; omega
                          have g6 : decide (3000 < Z) = false := by simp; omega
                          obtain ⟨T, hT⟩ : ∃ T : Nat, (Z : Int) * 4503599627370496 = (T : Int) := ⟨Z * 4503599627370496, by omega⟩
                          have w3 : IntKind.u64.wrap (T : Int) = (T : Int) := by rw [IntKind.wrap_u64]; omega
                          obtain ⟨X, hX⟩ : ∃ X : Nat, (T : Int) + (mm : Int) = (X : Int) := ⟨T + mm, by omega⟩
                          have w4 : IntKind.u64.wrap (X : Int) = (X : Int) := by rw [IntKind.wrap_u64]; omega
                          have hv : Z * 4503599627370496 + mm = X := by omega
                          have hRX : R = min X 9218868437227405312 := by rw [hRZ, hv]
                          by_cases hXI : 9218868437227405312 < X
                          · have hRi : R = 9218868437227405312 := by rw [hRX]; omega
                            have g7 : decide ((9218868437227405312 : Int) < (X : Int)) = true := by simp; omega
                            have g8 : decide (9218868437227405312 < X) = true := by simp; omega
                            subst hRi
                            clear hRZ hbig hZb hRX hXI
                            go_wp2
                            go_ret
                            exact ⟨rfl, rfl⟩
                          · have hRi : R = X := by rw [hRX]; omega
                            have g7 : decide ((9218868437227405312 : Int) < (X : Int)) = false := by simp; omega
                            have g8 : decide (9218868437227405312 < X) = false := by simp; omega
                            subst hRi
                            clear hRZ hbig hZb hRX hXI
                            go_wp2
                            go_ret
                            exact ⟨rfl, rfl⟩
                      · have hmt : mm = 9007199254740992 := by have := HB2.out; omega
                        subst hmt
                        obtain ⟨Z, hZ⟩ : ∃ Z : Nat, ee + 1 - (-1074) = (Z : Int) := ⟨(ee + 1 - (-1074)).toNat, by have := HB2.out; omega⟩
                        have hZ2 : ee + 1 + 1074 = (Z : Int) := by omega
                        have hZ3 : ee + 1075 = (Z : Int) := by omega
                        have hRZ : R = min (Z * 4503599627370496 + 4503599627370496) 9218868437227405312 := by
                          have h := HR2.out
                          have hB2 := HB2.out
                          have hv : (ee - (-1074)).toNat * 4503599627370496 + 9007199254740992 = Z * 4503599627370496 + 4503599627370496 := by omega
                          rw [h, hv]
                        have hZb : Z ≤ 7500 := by have := HB2.out; omega
                        have w0 : wrap64 (ee + 1) = ee + 1 := by have := HB2.out; unfold wrap64; omega
                        have w1 : wrap64 (Z : Int) = (Z : Int) := by unfold wrap64; omega
                        have w2 : IntKind.u64.wrap (Z : Int) = (Z : Int) := by rw [IntKind.wrap_u64]; omega
                        clear hA1 hB
                        by_cases hbig : 3000 < Z
                        · have hRi : R = 9218868437227405312 := by rw [hRZ]; apply Nat.min_eq_right; omega
                          have g5 : decide ((3000 : Int) < (Z : Int)) = true := by simp; omega
                          have g6 : decide (3000 < Z) = true := by simp; omega
                          subst hRi
                          clear hRZ hbig hZb
                          go_wp2
                          go_ret
                          exact ⟨rfl, rfl⟩
                        · have g5 : decide ((3000 : Int) < (Z : Int)) = false := by simp; omega
                          have g6 : decide (3000 < Z) = false := by simp; omega
                          obtain ⟨T, hT⟩ : ∃ T : Nat, (Z : Int) * 4503599627370496 = (T : Int) := ⟨Z * 4503599627370496, by omega⟩
                          have w3 : IntKind.u64.wrap (T : Int) = (T : Int) := by rw [IntKind.wrap_u64]; omega
                          obtain ⟨X, hX⟩ : ∃ X : Nat, (T : Int) + (4503599627370496 : Int) = (X : Int) := ⟨T + 4503599627370496, by omega⟩
                          have w4 : IntKind.u64.wrap (X : Int) = (X : Int) := by rw [IntKind.wrap_u64]; omega
                          have hv : Z * 4503599627370496 + 4503599627370496 = X := by omega
                          have hRX : R = min X 9218868437227405312 := by rw [hRZ, hv]
                          by_cases hXI : 9218868437227405312 < X
                          · have hRi : R = 9218868437227405312 := by rw [hRX]; omega
                            have g7 : decide ((9218868437227405312 : Int) < (X : Int)) = true := by simp; omega
                            have g8 : decide (9218868437227405312 < X) = true := by simp; omega
                            subst hRi
                            clear hRZ hbig hZb hRX hXI
                            go_wp2
                            go_ret
                            exact ⟨rfl, rfl⟩
                          · have hRi : R = X := by rw [hRX]; omega
                            have g7 : decide ((9218868437227405312 : Int) < (X : Int)) = false := by simp; omega
                            have g8 : decide (9218868437227405312 < X) = false := by simp; omega
                            subst hRi
                            clear hRZ hbig hZb hRX hXI
                            go_wp2
                            go_ret
                            exact ⟨rfl, rfl⟩

end Go.Proofs.Ytffceodbadedjaa
