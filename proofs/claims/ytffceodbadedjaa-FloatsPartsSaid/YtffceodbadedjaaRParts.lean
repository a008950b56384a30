/-
  The contract of the reference's Parts. Condition: the words are below 2^64.
-/
import Derived.Test.YtffceodbadedjaaRKind
import Derived.RegionTactic
set_option linter.unusedSimpArgs false
set_option linter.unusedVariables false
namespace Go.Proofs.Ytffceodbadedjaa
open Go.RowKit

theorem wrap_in (x : Int) (h : -9223372036854775808 ≤ x) (h2 : x ≤ 9223372036854775807) : wrap64 x = x := by unfold wrap64; omega
theorem wrapu_in (x : Nat) (h : x < 18446744073709551616) : IntKind.u64.wrap (x : Int) = (x : Int) := by rw [IntKind.wrap_u64]; omega
theorem pm_low (P s : Nat) (h : s / 2 ^ P = 0) : pm P s = s := by unfold pm; rw [if_pos h]
theorem pm_high (P s : Nat) (h : ¬ s / 2 ^ P = 0) : pm P s = 2 ^ P + s % 2 ^ P := by unfold pm; rw [if_neg h, Nat.add_comm]
theorem pe_low (P : Nat) (low : Int) (s : Nat) (h : s / 2 ^ P = 0) : pe P low s = low := by unfold pe; rw [if_pos h]

theorem RParts_32_no (a : Nat) (ha : a < 18446744073709551616) (hf : 2139095040 ≤ a % 4294967296 % 2147483648) (w : World) :
    Calls Try.prog 30 #[.int .i64 32, .int .u64 a] w fun e w' => e = .returned (.tuple #[.bool false, .int .u64 0, .int .i64 0, .int .i64 1]) ∧ Below w.heap.size w w' := by
  have HK := fun W => hid (RKind_32 a ha W)
  obtain ⟨k, hk⟩ : ∃ k : Nat, k = kindOf 2139095040 (a % 4294967296 % 2147483648) := ⟨_, rfl⟩
  rw [← hk] at HK
  have h1 : ((k : Int) != 1) = true := by
    have : k ≠ 1 := fun h => by rw [hk] at h; have := kind1.1 h; omega
    simp; omega
  have h2 : ((k : Int) != 2) = true := by
    have : k ≠ 2 := fun h => by rw [hk] at h; have := kind2.1 h; omega
    simp; omega
  clear hk hf ha
  go_enter Try.func30, Try.ntmps30
  go_wp2_with (go_at_call 20; ((with_reducible refine (HK _).out.mono ?_); rintro e w1 ⟨rfl, hb⟩))
  exact bodyPost_ret (v := .tuple #[.bool false, .int .u64 0, .int .i64 0, .int .i64 1]) (by simp [results, Try.results30, go_sem]) rfl ⟨rfl, hb⟩

theorem RParts_64_no (a : Nat) (ha : a < 18446744073709551616) (hf : 9218868437227405312 ≤ a % 18446744073709551616 % 9223372036854775808) (w : World) :
    Calls Try.prog 30 #[.int .i64 64, .int .u64 a] w fun e w' => e = .returned (.tuple #[.bool false, .int .u64 0, .int .i64 0, .int .i64 1]) ∧ Below w.heap.size w w' := by
  have HK := fun W => hid (RKind_64 a ha W)
  obtain ⟨k, hk⟩ : ∃ k : Nat, k = kindOf 9218868437227405312 (a % 18446744073709551616 % 9223372036854775808) := ⟨_, rfl⟩
  rw [← hk] at HK
  have h1 : ((k : Int) != 1) = true := by
    have : k ≠ 1 := fun h => by rw [hk] at h; have := kind1.1 h; omega
    simp; omega
  have h2 : ((k : Int) != 2) = true := by
    have : k ≠ 2 := fun h => by rw [hk] at h; have := kind2.1 h; omega
    simp; omega
  clear hk hf ha
  go_enter Try.func30, Try.ntmps30
  go_wp2_with (go_at_call 20; ((with_reducible refine (HK _).out.mono ?_); rintro e w1 ⟨rfl, hb⟩))
  exact bodyPost_ret (v := .tuple #[.bool false, .int .u64 0, .int .i64 0, .int .i64 1]) (by simp [results, Try.results30, go_sem]) rfl ⟨rfl, hb⟩

theorem RParts_32_low (a c k s fr : Nat) (ng : Bool) (hk12 : k = 1 ∨ k = 2)
    (HK : ∀ W, Hid (Calls Try.prog 20 #[.int .i64 32, .int .u64 a] W fun e w' => e = .returned (.int .i64 (k : Int)) ∧ Below W.heap.size W w'))
    (HC : ∀ W, Hid (Calls Try.prog 38 #[.int .i64 32, .int .u64 a] W fun e w' => e = .returned (.int .u64 (c : Int)) ∧ W = w'))
    (m1 : (c : Int) % 2147483648 = (s : Int)) (m2 : (s : Int) / 8388608 = 0) (m3 : (c : Int) % 8388608 = (fr : Int))
    (m4 : decide ((2147483648 : Int) ≤ (c : Int)) = ng) (m4' : decide (2147483648 ≤ c) = ng) (w : World) :
    Calls Try.prog 30 #[.int .i64 32, .int .u64 a] w fun e w' => e = .returned (.tuple #[.bool ng, .int .u64 fr, .int .i64 (-149), .int .i64 0]) ∧ Below w.heap.size w w' := by
  rcases hk12 with rfl | rfl
  all_goals
    go_enter Try.func30, Try.ntmps30
    go_wp2_with (first
      | (go_at_call 20; ((with_reducible refine (HK _).out.mono ?_); rintro e w1 ⟨rfl, hb⟩))
      | (go_at_call 38; ((with_reducible refine (HC _).out.mono ?_); rintro e w2 ⟨rfl, rfl⟩))
      | (go_at_call 40; ((with_reducible refine (rsign_32 _).mono ?_); rintro e w2 ⟨rfl, rfl⟩)))
    exact bodyPost_ret (v := .tuple #[.bool ng, .int .u64 fr, .int .i64 (-149), .int .i64 0]) (by simp [results, Try.results30, go_sem, m3]) rfl ⟨rfl, hb⟩

theorem RParts_32_high (a c k s fr q M : Nat) (X Y : Int) (ng : Bool) (hk12 : k = 1 ∨ k = 2)
    (HK : ∀ W, Hid (Calls Try.prog 20 #[.int .i64 32, .int .u64 a] W fun e w' => e = .returned (.int .i64 (k : Int)) ∧ Below W.heap.size W w'))
    (HC : ∀ W, Hid (Calls Try.prog 38 #[.int .i64 32, .int .u64 a] W fun e w' => e = .returned (.int .u64 (c : Int)) ∧ W = w'))
    (m1 : (c : Int) % 2147483648 = (s : Int)) (m2 : (s : Int) / 8388608 = (q : Int)) (m3 : (c : Int) % 8388608 = (fr : Int))
    (m4 : decide ((2147483648 : Int) ≤ (c : Int)) = ng) (m4' : decide (2147483648 ≤ c) = ng)
    (n1 : (fr : Int) + 8388608 = (M : Int)) (n2 : IntKind.u64.wrap (M : Int) = (M : Int)) (n3 : wrap64 (q : Int) = (q : Int))
    (hY : (-149) + (q : Int) = Y) (n4 : wrap64 Y = Y) (n5 : Y - 1 = X) (n6 : wrap64 X = X) (n7 : ((q : Int) == 0) = false) (w : World) :
    Calls Try.prog 30 #[.int .i64 32, .int .u64 a] w fun e w' => e = .returned (.tuple #[.bool ng, .int .u64 M, .int .i64 X, .int .i64 0]) ∧ Below w.heap.size w w' := by
  rcases hk12 with rfl | rfl
  all_goals
    go_enter Try.func30, Try.ntmps30
    go_wp2_with (first
        | (go_at_call 20; ((with_reducible refine (HK _).out.mono ?_); rintro e w1 ⟨rfl, hb⟩))
        | (go_at_call 38; ((with_reducible refine (HC _).out.mono ?_); rintro e w2 ⟨rfl, rfl⟩))
        | (go_at_call 40; ((with_reducible refine (rsign_32 _).mono ?_); rintro e w2 ⟨rfl, rfl⟩)))
    exact bodyPost_ret (v := .tuple #[.bool ng, .int .u64 M, .int .i64 X, .int .i64 0]) (by simp [results, Try.results30, go_sem]) rfl ⟨rfl, hb⟩

theorem rparts_32_math (c s q fr : Nat) (hc : c < 2 * 2147483648) (hs : s = c % 2147483648) (hf : s < 2139095040) (hq : q = s / 8388608) (hfr : fr = c % 8388608) :
    (c : Int) % 2147483648 = (s : Int) ∧ (s : Int) / 8388608 = (q : Int) ∧ (c : Int) % 8388608 = (fr : Int) ∧ q ≤ 2047 ∧ fr = s % 8388608 ∧ fr < 8388608 := by
  refine ⟨by omega, by omega, by omega, by omega, by omega, by omega⟩

theorem RParts_32 (a : Nat) (ha : a < 18446744073709551616) (hf : a % 4294967296 % 2147483648 < 2139095040) (w : World) :
    Calls Try.prog 30 #[.int .i64 32, .int .u64 a] w fun e w' => e = .returned (.tuple #[.bool (decide (2147483648 ≤ a % 4294967296)), .int .u64 ((pm 23 (a % 4294967296 % 2147483648) : Nat) : Int), .int .i64 (pe 23 (-149) (a % 4294967296 % 2147483648)), .int .i64 0]) ∧ Below w.heap.size w w' := by
  have HK := fun W => hid (RKind_32 a ha W)
  have HC := fun W => hid (rcut_32 a  W)
  have hc : a % 4294967296 < 2 * 2147483648 := Nat.mod_lt _ (by decide)
  have hk12 : kindOf 2139095040 (a % 4294967296 % 2147483648) = 1 ∨ kindOf 2139095040 (a % 4294967296 % 2147483648) = 2 := by
    by_cases h : a % 4294967296 % 2147483648 = 0
    · exact .inl (kind1.2 h)
    · exact .inr (kind2.2 ⟨h, hf⟩)
  generalize kindOf 2139095040 (a % 4294967296 % 2147483648) = k at *
  clear ha
  generalize a % 4294967296 = c at *
  obtain ⟨s, hs⟩ : ∃ s : Nat, s = c % 2147483648 := ⟨_, rfl⟩
  obtain ⟨q, hq⟩ : ∃ q : Nat, q = s / 8388608 := ⟨_, rfl⟩
  obtain ⟨fr, hfr⟩ : ∃ fr : Nat, fr = c % 8388608 := ⟨_, rfl⟩
  rw [← hs] at hf ⊢
  obtain ⟨m1, m2, m3, hqb, hfs, hfb⟩ := rparts_32_math c s q fr hc hs hf hq hfr
  have m4 : decide ((2147483648 : Int) ≤ (c : Int)) = decide (2147483648 ≤ c) := decide_eq_decide.2 (by clear hf hq hfr m1 m2 m3 hqb hfs hfb hc hs; omega)
  by_cases h0 : q = 0
  · have hq0 : s / 2 ^ 23 = 0 := by rw [h0] at hq; exact hq.symm
    have hp : pm 23 s = fr := by
      rw [pm_low _ _ hq0]
      have : s / 8388608 = 0 := hq0
      clear m1 m2 m3 m4 HK HC hk12 hc hs hf hq hfr hq0
      omega
    rw [hp, pe_low _ _ _ hq0]
    subst h0
    exact RParts_32_low a c k s fr _ hk12 HK HC m1 m2 m3 m4 rfl w
  · have hq0 : ¬ s / 2 ^ 23 = 0 := by rw [hq] at h0; exact h0
    have hp : pm 23 s = fr + 8388608 := by rw [hfs]; exact (pm_high _ _ hq0).trans (Nat.add_comm _ _)
    have hpe : pe 23 (-149) s = (-149) + (q : Int) - 1 := by
      rw [pe_eq]
      have : s / 2 ^ 23 = q := hq.symm
      rw [this]
      clear m1 m2 m3 m4 HK HC hk12 hc hs hf hq hfr hq0 hp this hfs hfb
      omega
    rw [hp, hpe]
    clear hp hpe hq0 hs hf hq hfr hc hfs
    have e1 : (fr : Int) + 8388608 = ((fr + 8388608 : Nat) : Int) := by clear m1 m2 m3 m4; omega
    have e2 : IntKind.u64.wrap ((fr + 8388608 : Nat) : Int) = ((fr + 8388608 : Nat) : Int) := wrapu_in _ (by clear m1 m2 m3 m4 e1; omega)
    have e3 : wrap64 (q : Int) = (q : Int) := wrap_in _ (by clear m1 m2 m3 m4 e1 e2; omega) (by clear m1 m2 m3 m4 e1 e2; omega)
    have e4 : wrap64 ((-149) + (q : Int)) = (-149) + (q : Int) := wrap_in _ (by clear m1 m2 m3 m4 e1 e2; omega) (by clear m1 m2 m3 m4 e1 e2; omega)
    have e6 : wrap64 ((-149) + (q : Int) - 1) = (-149) + (q : Int) - 1 := wrap_in _ (by clear m1 m2 m3 m4 e1 e2; omega) (by clear m1 m2 m3 m4 e1 e2; omega)
    have e7 : ((q : Int) == 0) = false := by
      simp [h0]
    exact RParts_32_high a c k s fr q (fr + 8388608) ((-149) + (q : Int) - 1) ((-149) + (q : Int)) _ hk12 HK HC m1 m2 m3 m4 rfl e1 e2 e3 rfl e4 rfl e6 e7 w

theorem RParts_64_low (a c k s fr : Nat) (ng : Bool) (hk12 : k = 1 ∨ k = 2)
    (HK : ∀ W, Hid (Calls Try.prog 20 #[.int .i64 64, .int .u64 a] W fun e w' => e = .returned (.int .i64 (k : Int)) ∧ Below W.heap.size W w'))
    (HC : ∀ W, Hid (Calls Try.prog 38 #[.int .i64 64, .int .u64 a] W fun e w' => e = .returned (.int .u64 (c : Int)) ∧ W = w'))
    (m1 : (c : Int) % 9223372036854775808 = (s : Int)) (m2 : (s : Int) / 4503599627370496 = 0) (m3 : (c : Int) % 4503599627370496 = (fr : Int))
    (m4 : decide ((9223372036854775808 : Int) ≤ (c : Int)) = ng) (m4' : decide (9223372036854775808 ≤ c) = ng) (w : World) :
    Calls Try.prog 30 #[.int .i64 64, .int .u64 a] w fun e w' => e = .returned (.tuple #[.bool ng, .int .u64 fr, .int .i64 (-1074), .int .i64 0]) ∧ Below w.heap.size w w' := by
  rcases hk12 with rfl | rfl
  all_goals
    go_enter Try.func30, Try.ntmps30
    go_wp2_with (first
      | (go_at_call 20; ((with_reducible refine (HK _).out.mono ?_); rintro e w1 ⟨rfl, hb⟩))
      | (go_at_call 38; ((with_reducible refine (HC _).out.mono ?_); rintro e w2 ⟨rfl, rfl⟩))
      | (go_at_call 40; ((with_reducible refine (rsign_64 _).mono ?_); rintro e w2 ⟨rfl, rfl⟩)))
    exact bodyPost_ret (v := .tuple #[.bool ng, .int .u64 fr, .int .i64 (-1074), .int .i64 0]) (by simp [results, Try.results30, go_sem, m3]) rfl ⟨rfl, hb⟩

theorem RParts_64_high (a c k s fr q M : Nat) (X Y : Int) (ng : Bool) (hk12 : k = 1 ∨ k = 2)
    (HK : ∀ W, Hid (Calls Try.prog 20 #[.int .i64 64, .int .u64 a] W fun e w' => e = .returned (.int .i64 (k : Int)) ∧ Below W.heap.size W w'))
    (HC : ∀ W, Hid (Calls Try.prog 38 #[.int .i64 64, .int .u64 a] W fun e w' => e = .returned (.int .u64 (c : Int)) ∧ W = w'))
    (m1 : (c : Int) % 9223372036854775808 = (s : Int)) (m2 : (s : Int) / 4503599627370496 = (q : Int)) (m3 : (c : Int) % 4503599627370496 = (fr : Int))
    (m4 : decide ((9223372036854775808 : Int) ≤ (c : Int)) = ng) (m4' : decide (9223372036854775808 ≤ c) = ng)
    (n1 : (fr : Int) + 4503599627370496 = (M : Int)) (n2 : IntKind.u64.wrap (M : Int) = (M : Int)) (n3 : wrap64 (q : Int) = (q : Int))
    (hY : (-1074) + (q : Int) = Y) (n4 : wrap64 Y = Y) (n5 : Y - 1 = X) (n6 : wrap64 X = X) (n7 : ((q : Int) == 0) = false) (w : World) :
    Calls Try.prog 30 #[.int .i64 64, .int .u64 a] w fun e w' => e = .returned (.tuple #[.bool ng, .int .u64 M, .int .i64 X, .int .i64 0]) ∧ Below w.heap.size w w' := by
  rcases hk12 with rfl | rfl
  all_goals
    go_enter Try.func30, Try.ntmps30
    go_wp2_with (first
        | (go_at_call 20; ((with_reducible refine (HK _).out.mono ?_); rintro e w1 ⟨rfl, hb⟩))
        | (go_at_call 38; ((with_reducible refine (HC _).out.mono ?_); rintro e w2 ⟨rfl, rfl⟩))
        | (go_at_call 40; ((with_reducible refine (rsign_64 _).mono ?_); rintro e w2 ⟨rfl, rfl⟩)))
    exact bodyPost_ret (v := .tuple #[.bool ng, .int .u64 M, .int .i64 X, .int .i64 0]) (by simp [results, Try.results30, go_sem]) rfl ⟨rfl, hb⟩

theorem rparts_64_math (c s q fr : Nat) (hc : c < 2 * 9223372036854775808) (hs : s = c % 9223372036854775808) (hf : s < 9218868437227405312) (hq : q = s / 4503599627370496) (hfr : fr = c % 4503599627370496) :
    (c : Int) % 9223372036854775808 = (s : Int) ∧ (s : Int) / 4503599627370496 = (q : Int) ∧ (c : Int) % 4503599627370496 = (fr : Int) ∧ q ≤ 2047 ∧ fr = s % 4503599627370496 ∧ fr < 4503599627370496 := by
  refine ⟨by omega, by omega, by omega, by omega, by omega, by omega⟩

theorem RParts_64 (a : Nat) (ha : a < 18446744073709551616) (hf : a % 18446744073709551616 % 9223372036854775808 < 9218868437227405312) (w : World) :
    Calls Try.prog 30 #[.int .i64 64, .int .u64 a] w fun e w' => e = .returned (.tuple #[.bool (decide (9223372036854775808 ≤ a % 18446744073709551616)), .int .u64 ((pm 52 (a % 18446744073709551616 % 9223372036854775808) : Nat) : Int), .int .i64 (pe 52 (-1074) (a % 18446744073709551616 % 9223372036854775808)), .int .i64 0]) ∧ Below w.heap.size w w' := by
  have HK := fun W => hid (RKind_64 a ha W)
  have HC := fun W => hid (rcut_64 a ha W)
  have hc : a % 18446744073709551616 < 2 * 9223372036854775808 := Nat.mod_lt _ (by decide)
  have hk12 : kindOf 9218868437227405312 (a % 18446744073709551616 % 9223372036854775808) = 1 ∨ kindOf 9218868437227405312 (a % 18446744073709551616 % 9223372036854775808) = 2 := by
    by_cases h : a % 18446744073709551616 % 9223372036854775808 = 0
    · exact .inl (kind1.2 h)
    · exact .inr (kind2.2 ⟨h, hf⟩)
  generalize kindOf 9218868437227405312 (a % 18446744073709551616 % 9223372036854775808) = k at *
  clear ha
  generalize a % 18446744073709551616 = c at *
  obtain ⟨s, hs⟩ : ∃ s : Nat, s = c % 9223372036854775808 := ⟨_, rfl⟩
  obtain ⟨q, hq⟩ : ∃ q : Nat, q = s / 4503599627370496 := ⟨_, rfl⟩
  obtain ⟨fr, hfr⟩ : ∃ fr : Nat, fr = c % 4503599627370496 := ⟨_, rfl⟩
  rw [← hs] at hf ⊢
  obtain ⟨m1, m2, m3, hqb, hfs, hfb⟩ := rparts_64_math c s q fr hc hs hf hq hfr
  have m4 : decide ((9223372036854775808 : Int) ≤ (c : Int)) = decide (9223372036854775808 ≤ c) := decide_eq_decide.2 (by clear hf hq hfr m1 m2 m3 hqb hfs hfb hc hs; omega)
  by_cases h0 : q = 0
  · have hq0 : s / 2 ^ 52 = 0 := by rw [h0] at hq; exact hq.symm
    have hp : pm 52 s = fr := by
      rw [pm_low _ _ hq0]
      have : s / 4503599627370496 = 0 := hq0
      clear m1 m2 m3 m4 HK HC hk12 hc hs hf hq hfr hq0
      omega
    rw [hp, pe_low _ _ _ hq0]
    subst h0
    exact RParts_64_low a c k s fr _ hk12 HK HC m1 m2 m3 m4 rfl w
  · have hq0 : ¬ s / 2 ^ 52 = 0 := by rw [hq] at h0; exact h0
    have hp : pm 52 s = fr + 4503599627370496 := by rw [hfs]; exact (pm_high _ _ hq0).trans (Nat.add_comm _ _)
    have hpe : pe 52 (-1074) s = (-1074) + (q : Int) - 1 := by
      rw [pe_eq]
      have : s / 2 ^ 52 = q := hq.symm
      rw [this]
      clear m1 m2 m3 m4 HK HC hk12 hc hs hf hq hfr hq0 hp this hfs hfb
      omega
    rw [hp, hpe]
    clear hp hpe hq0 hs hf hq hfr hc hfs
    have e1 : (fr : Int) + 4503599627370496 = ((fr + 4503599627370496 : Nat) : Int) := by clear m1 m2 m3 m4; omega
    have e2 : IntKind.u64.wrap ((fr + 4503599627370496 : Nat) : Int) = ((fr + 4503599627370496 : Nat) : Int) := wrapu_in _ (by clear m1 m2 m3 m4 e1; omega)
    have e3 : wrap64 (q : Int) = (q : Int) := wrap_in _ (by clear m1 m2 m3 m4 e1 e2; omega) (by clear m1 m2 m3 m4 e1 e2; omega)
    have e4 : wrap64 ((-1074) + (q : Int)) = (-1074) + (q : Int) := wrap_in _ (by clear m1 m2 m3 m4 e1 e2; omega) (by clear m1 m2 m3 m4 e1 e2; omega)
    have e6 : wrap64 ((-1074) + (q : Int) - 1) = (-1074) + (q : Int) - 1 := wrap_in _ (by clear m1 m2 m3 m4 e1 e2; omega) (by clear m1 m2 m3 m4 e1 e2; omega)
    have e7 : ((q : Int) == 0) = false := by
      simp [h0]
    exact RParts_64_high a c k s fr q (fr + 4503599627370496) ((-1074) + (q : Int) - 1) ((-1074) + (q : Int)) _ hk12 HK HC m1 m2 m3 m4 rfl e1 e2 e3 rfl e4 rfl e6 e7 w

end Go.Proofs.Ytffceodbadedjaa
