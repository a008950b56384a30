/-
  SatMath, Sat, Exit: merged, what the law does not reach left out (each text says what it holds where it lies in wip). No condition.
-/
import Derived.Test.YtlhakbkdlgejpaaGreatDoorK01
import Derived.WalkKit
set_option linter.unusedSimpArgs false
set_option linter.unusedVariables false
set_option maxRecDepth 100000
namespace Go.Proofs.YtlhakbkdlgejpaaGreatDoor
open Go
theorem bit_of_mod {n : Nat} (hn : Okn n) (x : Nat) : x.testBit (n - 1) = decide (2 ^ (n - 1) ≤ x % 2 ^ n) := by
  rw [← testBit_top hn (Nat.mod_lt _ (Nat.two_pow_pos n)), Nat.testBit_mod_two_pow]
  have := hn.le
  simp
  omega
/-- Where a sum with a sign is too great or too small. -/
theorem sat_bits {n a b s : Nat} (hn : Okn n) : ((a ^^^ s) &&& (b ^^^ s)).testBit (n - 1) = decide (¬ (2 ^ (n - 1) ≤ a % 2 ^ n ↔ 2 ^ (n - 1) ≤ s % 2 ^ n) ∧ ¬ (2 ^ (n - 1) ≤ b % 2 ^ n ↔ 2 ^ (n - 1) ≤ s % 2 ^ n)) := by
  rw [Nat.testBit_and, Nat.testBit_xor, Nat.testBit_xor, bit_of_mod hn, bit_of_mod hn, bit_of_mod hn]
  by_cases h1 : 2 ^ (n - 1) ≤ a % 2 ^ n <;> by_cases h2 : 2 ^ (n - 1) ≤ b % 2 ^ n <;> by_cases h3 : 2 ^ (n - 1) ≤ s % 2 ^ n <;> simp [h1, h2, h3]
theorem add_in {n a b : Nat} (hn : Okn n) (ha : a < 2 ^ n) (hb : b < 2 ^ n) (h : ¬ (¬ (2 ^ (n - 1) ≤ a % 2 ^ n ↔ 2 ^ (n - 1) ≤ (a + b) % 18446744073709551616 % 2 ^ n) ∧ ¬ (2 ^ (n - 1) ≤ b % 2 ^ n ↔ 2 ^ (n - 1) ≤ (a + b) % 18446744073709551616 % 2 ^ n))) :
    (a + b) % 18446744073709551616 % 2 ^ n = toN n (clampS n (sg n a + sg n b)) := by
  unfold toN clampS sg
  rcases hn with rfl | rfl | rfl | rfl <;> simp at ha hb h ⊢ <;> repeat' split <;> omega
theorem add_out {n a b : Nat} (hn : Okn n) (ha : a < 2 ^ n) (hb : b < 2 ^ n) (h : ¬ (2 ^ (n - 1) ≤ a % 2 ^ n ↔ 2 ^ (n - 1) ≤ (a + b) % 18446744073709551616 % 2 ^ n) ∧ ¬ (2 ^ (n - 1) ≤ b % 2 ^ n ↔ 2 ^ (n - 1) ≤ (a + b) % 18446744073709551616 % 2 ^ n)) :
    (if 2 ^ (n - 1) ≤ a then 2 ^ (n - 1) else 2 ^ (n - 1) - 1) = toN n (clampS n (sg n a + sg n b)) := by
  unfold toN clampS sg
  rcases hn with rfl | rfl | rfl | rfl <;> simp at ha hb h ⊢ <;> repeat' split <;> omega
theorem sub_in {n a b c : Nat} (hn : Okn n) (ha : a < 2 ^ n) (hb : b < 2 ^ n) (hc : c = 18446744073709551615 - b) (h : ¬ (¬ (2 ^ (n - 1) ≤ a % 2 ^ n ↔ 2 ^ (n - 1) ≤ (a + c + 1) % 18446744073709551616 % 2 ^ n) ∧ ¬ (2 ^ (n - 1) ≤ c % 2 ^ n ↔ 2 ^ (n - 1) ≤ (a + c + 1) % 18446744073709551616 % 2 ^ n))) :
    (a + c + 1) % 18446744073709551616 % 2 ^ n = toN n (clampS n (sg n a - sg n b)) := by
  unfold toN clampS sg
  rcases hn with rfl | rfl | rfl | rfl <;> simp at ha hb h ⊢ <;> repeat' split <;> omega
theorem sub_out {n a b c : Nat} (hn : Okn n) (ha : a < 2 ^ n) (hb : b < 2 ^ n) (hc : c = 18446744073709551615 - b) (h : ¬ (2 ^ (n - 1) ≤ a % 2 ^ n ↔ 2 ^ (n - 1) ≤ (a + c + 1) % 18446744073709551616 % 2 ^ n) ∧ ¬ (2 ^ (n - 1) ≤ c % 2 ^ n ↔ 2 ^ (n - 1) ≤ (a + c + 1) % 18446744073709551616 % 2 ^ n)) :
    (if 2 ^ (n - 1) ≤ a then 2 ^ (n - 1) else 2 ^ (n - 1) - 1) = toN n (clampS n (sg n a - sg n b)) := by
  unfold toN clampS sg
  rcases hn with rfl | rfl | rfl | rfl <;> simp at ha hb h ⊢ <;> repeat' split <;> omega
theorem xor_max (b : Nat) (hb : b < 18446744073709551616) : bits .xor .u64 IntKind.u64.max (b : Int) = ((18446744073709551615 - b : Nat) : Int) := by
  have e : IntKind.u64.max = ((18446744073709551615 : Nat) : Int) := by decide
  rw [e, bits_xor_u64_nat _ _ (by decide) hb]
  congr 1
  apply Nat.eq_of_testBit_eq
  intro i
  have h : 18446744073709551615 - b = 2 ^ 64 - (b + 1) := by omega
  rw [h, Nat.testBit_two_pow_sub_succ (by omega), Nat.testBit_xor, show (18446744073709551615 : Nat) = 2 ^ 64 - 1 from rfl, Nat.testBit_two_pow_sub_one]
  by_cases hi : i < 64
  · simp [hi]
  · have : b.testBit i = false := Nat.testBit_lt_two_pow (Nat.lt_of_lt_of_le hb (Nat.pow_le_pow_right (n := 2) (i := 64) (by decide) (by omega)))
    simp [hi, this]
/-- A cut number with its sign bit turned over. -/
def turned (n a : Nat) : Nat := if 2 ^ (n - 1) ≤ a then a - 2 ^ (n - 1) else a + 2 ^ (n - 1)
theorem xor_top {n a : Nat} (hn : Okn n) (ha : a < 2 ^ n) : a ^^^ 2 ^ (n - 1) = turned n a := by
  obtain ⟨h1, h2, h3, h4⟩ := pow_lt64 hn
  unfold turned
  split
  · rename_i h
    have e : a = 2 ^ (n - 1) ||| (a - 2 ^ (n - 1)) := by
      have := Nat.two_pow_add_eq_or_of_lt (i := n - 1) (b := a - 2 ^ (n - 1)) (by omega) 1
      rw [Nat.mul_one] at this
      rw [← this]; omega
    apply Nat.eq_of_testBit_eq
    intro i
    rw [Nat.testBit_xor, Nat.testBit_two_pow]
    conv => lhs; rw [e]
    rw [Nat.testBit_or, Nat.testBit_two_pow]
    by_cases hi : n - 1 = i
    · subst hi
      have : (a - 2 ^ (n - 1)).testBit (n - 1) = false := Nat.testBit_lt_two_pow (by omega)
      simp [this]
    · simp [hi]
  · rename_i h
    have e : a + 2 ^ (n - 1) = 2 ^ (n - 1) ||| a := by
      have := Nat.two_pow_add_eq_or_of_lt (i := n - 1) (b := a) (by omega) 1
      rw [Nat.mul_one] at this
      rw [← this]; omega
    rw [e]
    apply Nat.eq_of_testBit_eq
    intro i
    rw [Nat.testBit_xor, Nat.testBit_two_pow, Nat.testBit_or, Nat.testBit_two_pow]
    by_cases hi : n - 1 = i
    · subst hi
      have : a.testBit (n - 1) = false := Nat.testBit_lt_two_pow (by omega)
      simp [this]
    · simp [hi]
theorem turned_lt {n a : Nat} (hn : Okn n) (ha : a < 2 ^ n) : turned n a < 2 ^ n := by
  obtain ⟨h1, h2, h3, h4⟩ := pow_lt64 hn
  unfold turned; split <;> omega
theorem turned_turned {n a : Nat} (hn : Okn n) (ha : a < 2 ^ n) : turned n (turned n a) = a := by
  obtain ⟨h1, h2, h3, h4⟩ := pow_lt64 hn
  unfold turned; split <;> split <;> omega
theorem turned_sg {n a : Nat} (hn : Okn n) : ((turned n a : Nat) : Int) = sg n a + (2 ^ (n - 1) : Nat) := by
  obtain ⟨h1, h2, h3, h4⟩ := pow_lt64 hn
  unfold turned sg; split <;> omega
theorem xor_turned {n a : Nat} (hn : Okn n) (ha : a < 2 ^ n) : bits .xor .u64 (a : Int) ((2 ^ (n - 1) : Nat) : Int) = ((turned n a : Nat) : Int) := by
  obtain ⟨h1, h2, h3, h4⟩ := pow_lt64 hn
  rw [bits_xor_u64_nat _ _ (by omega) h1, xor_top hn ha]
theorem xor_zero (a : Nat) (ha : a < 18446744073709551616) : bits .xor .u64 (a : Int) 0 = (a : Int) := by
  have := bits_xor_u64_nat a 0 ha (by decide)
  rw [Nat.xor_zero] at this
  exact this
theorem xor_and_or : ∀ (k a b : Nat), a < 2 ^ k → b < 2 ^ k → (a ||| b) = (a &&& b) + (a ^^^ b) ∧ a + b = 2 * (a &&& b) + (a ^^^ b)
  | 0, a, b, ha, hb => by
    have h1 : a = 0 := by simpa using ha
    have h2 : b = 0 := by simpa using hb
    subst h1; subst h2; decide
  | k + 1, a, b, ha, hb => by
    have ih := xor_and_or k (a / 2) (b / 2) (by rw [Nat.pow_succ] at ha; omega) (by rw [Nat.pow_succ] at hb; omega)
    have e1 := @Nat.or_div_two_pow a b 1
    have e2 := @Nat.and_div_two_pow a b 1
    have e3 := @Nat.xor_div_two_pow a b 1
    have f1 := @Nat.or_mod_two_pow a b 1
    have f2 := @Nat.and_mod_two_pow a b 1
    have f3 := @Nat.xor_mod_two_pow a b 1
    simp only [Nat.pow_one] at e1 e2 e3 f1 f2 f3
    rw [← e1, ← e2, ← e3] at ih
    have hA : a % 2 = 0 ∨ a % 2 = 1 := by omega
    have hB : b % 2 = 0 ∨ b % 2 = 1 := by omega
    rcases hA with hA | hA <;> rcases hB with hB | hB <;> rw [hA, hB] at f1 f2 f3
    · have g1 : (a ||| b) % 2 = 0 := f1
      have g2 : (a &&& b) % 2 = 0 := f2
      have g3 : (a ^^^ b) % 2 = 0 := f3
      omega
    · have g1 : (a ||| b) % 2 = 1 := f1
      have g2 : (a &&& b) % 2 = 0 := f2
      have g3 : (a ^^^ b) % 2 = 1 := f3
      omega
    · have g1 : (a ||| b) % 2 = 1 := f1
      have g2 : (a &&& b) % 2 = 0 := f2
      have g3 : (a ^^^ b) % 2 = 1 := f3
      omega
    · have g1 : (a ||| b) % 2 = 1 := f1
      have g2 : (a &&& b) % 2 = 1 := f2
      have g3 : (a ^^^ b) % 2 = 0 := f3
      omega
end Go.Proofs.YtlhakbkdlgejpaaGreatDoor
namespace Go.Proofs.YtlhakbkdlgejpaaGreatDoor
open Go.RowKit
theorem sub_sat_u (n : Nat) (hn : Okn n) (a b : Nat) (ha : a < 2 ^ n) (w : World) :
    Calls Tryz.prog 176 #[.int .i64 n, .int .i64 19, .int .u64 a, .int .u64 b] w (Cuts n (satR n 19 a b) w) := by
  obtain ⟨h1, h2, h3, h4⟩ := pow_lt64 hn
  have HA := hid ha
  have H3 := hid h3
  clear h1 h2 h3 h4 hn ha
  go_enter Tryz.func176, Tryz.ntmps176
  go_wp2
  all_goals
    go_ret
    have := HA.out
    have := H3.out
    refine cuts_nat (v := a - b) (by rw [IntKind.wrap_u64]; omega) (by omega) ?_
    rw [satR, if_neg (by decide), if_neg (by decide), if_neg (by decide), Nat.mod_eq_of_lt (by omega)]
theorem add_sat_u (n : Nat) (hn : Okn n) (a b : Nat) (ha : a < 2 ^ n) (hb : b < 2 ^ n) (w : World) :
    Calls Tryz.prog 176 #[.int .i64 n, .int .i64 17, .int .u64 a, .int .u64 b] w (Cuts n (satR n 17 a b) w) := by
  obtain ⟨h1, h2, h3, h4⟩ := pow_lt64 hn
  have HO := hid (ones_any n hn w)
  obtain ⟨O, hO⟩ : ∃ O : Nat, O = 2 ^ n - 1 := ⟨_, rfl⟩
  rw [← hO] at HO
  have hw : IntKind.u64.wrap ((O : Int) - (a : Int)) = ((O - a : Nat) : Int) := by rw [IntKind.wrap_u64]; omega
  obtain ⟨d, hd⟩ : ∃ d : Nat, d = O - a := ⟨_, rfl⟩
  rw [← hd] at hw
  have HA := hid (show O = 2 ^ n - 1 ∧ d = O - a ∧ a < 2 ^ n ∧ b < 2 ^ n ∧ 2 ^ n ≤ 18446744073709551616 from ⟨hO, hd, ha, hb, h3⟩)
  clear h1 h2 h3 h4 hn ha hb hO hd
  go_enter Tryz.func176, Tryz.ntmps176
  go_wp2_with (go_at_call 201; refine HO.out.mono ?_; rintro e w' ⟨rfl, rfl⟩)
  all_goals
    go_ret
    obtain ⟨hO, hd, ha, hb, h3⟩ := HA.out
    refine cuts_nat (v := satR n 17 a b) ?_ ?_ ?_
    all_goals
      rw [satR, if_neg (by decide), if_neg (by decide), if_pos rfl]
      try rw [IntKind.wrap_u64]
      split
    all_goals first | omega | (rw [Nat.mod_eq_of_lt (by omega)])
set_option maxHeartbeats 800000 in
theorem add_sat_s (n : Nat) (hn : Okn n) (a b : Nat) (ha : a < 2 ^ n) (hb : b < 2 ^ n) (w : World) :
    Calls Tryz.prog 176 #[.int .i64 n, .int .i64 16, .int .u64 a, .int .u64 b] w (Cuts n (satR n 16 a b) w) := by
  obtain ⟨h1, h2, h3, h4⟩ := pow_lt64 hn
  have HS := hid (sign_any n hn w)
  obtain ⟨s, hs⟩ : ∃ s : Nat, s = (a + b) % 18446744073709551616 := ⟨_, rfl⟩
  have hsl : s < 18446744073709551616 := by omega
  have hw : IntKind.u64.wrap ((a : Int) + (b : Int)) = (s : Int) := by rw [IntKind.wrap_u64]; omega
  have hww := wrap_nat hsl
  have hx := bits_xor_u64_nat a s (by omega) hsl
  have hy := bits_xor_u64_nat b s (by omega) hsl
  have hxl : a ^^^ s < 18446744073709551616 := Nat.xor_lt_two_pow (n := 64) (by omega) hsl
  have hyl : b ^^^ s < 18446744073709551616 := Nat.xor_lt_two_pow (n := 64) (by omega) hsl
  have hz := bits_and_u64_nat _ _ hxl hyl
  have hzl : (a ^^^ s) &&& (b ^^^ s) < 18446744073709551616 := Nat.and_lt_two_pow (n := 64) _ hyl
  have HT := negative_any n hn _ hzl _ (sat_bits (b := b) hn) w
  have HNa := negative_any n hn a (by omega) _ (testBit_top hn ha) w
  have hin := add_in hn ha hb
  have hout := add_out hn ha hb
  rw [← hs] at hin hout
  rw [satR, if_pos rfl]
  obtain ⟨x, hxe⟩ : ∃ x : Nat, x = a ^^^ s := ⟨_, rfl⟩
  obtain ⟨y, hye⟩ : ∃ y : Nat, y = b ^^^ s := ⟨_, rfl⟩
  obtain ⟨z, hze⟩ : ∃ z : Nat, z = x &&& y := ⟨_, rfl⟩
  rw [← hxe] at hx hz HT
  rw [← hye] at hy hz HT
  rw [← hze] at hz HT
  by_cases hc : ¬ (2 ^ (n - 1) ≤ a % 2 ^ n ↔ 2 ^ (n - 1) ≤ s % 2 ^ n) ∧ ¬ (2 ^ (n - 1) ≤ b % 2 ^ n ↔ 2 ^ (n - 1) ≤ s % 2 ^ n)
  · simp only [hc, not_false_eq_true, and_self, decide_true] at HT
    have hr := hout hc
    obtain ⟨R, hR⟩ : ∃ R : Nat, R = toN n (clampS n (sg n a + sg n b)) := ⟨_, rfl⟩
    rw [← hR] at hr ⊢
    obtain ⟨S, hS⟩ : ∃ S : Nat, S = 2 ^ (n - 1) := ⟨_, rfl⟩
    rw [← hS] at HS hr HNa
    have hS1 : IntKind.u64.wrap ((S : Int) - 1) = ((S - 1 : Nat) : Int) := by rw [IntKind.wrap_u64]; omega
    have hRl : S - 1 < 18446744073709551616 ∧ S < 18446744073709551616 ∧ S < 2 ^ n := ⟨by omega, by omega, by omega⟩
    have HRl := hid hRl
    have HT2 := hid HT
    by_cases hca : S ≤ a
    · simp only [hca, decide_true] at HNa
      rw [if_pos hca] at hr
      have HN2 := hid HNa
      have HR := hid hr
      clear hr h1 h2 h3 h4 hs hin hout hc HT HNa hxe hye hze hxl hyl hzl hS hRl hn ha hb hR hca hsl
      go_enter Tryz.func176, Tryz.ntmps176
      go_wp2_with (first
        | (go_at_call 202; ((with_reducible refine HT2.out.mono ?_); rintro e w' ⟨rfl, rfl⟩))
        | (go_at_call 202; ((with_reducible refine HN2.out.mono ?_); rintro e w' ⟨rfl, rfl⟩))
        | (go_at_call 173; refine HS.out.mono ?_; rintro e w' ⟨rfl, rfl⟩))
      go_ret
      exact cuts_nat (v := S) rfl HRl.out.2.1 (by rw [← HR.out]; exact Nat.mod_eq_of_lt HRl.out.2.2)
    · simp only [hca, decide_false] at HNa
      rw [if_neg hca] at hr
      have HN2 := hid HNa
      have HR := hid hr
      clear hr h1 h2 h3 h4 hs hin hout hc HT HNa hxe hye hze hxl hyl hzl hS hRl hn ha hb hR hca hsl
      go_enter Tryz.func176, Tryz.ntmps176
      go_wp2_with (first
        | (go_at_call 202; ((with_reducible refine HT2.out.mono ?_); rintro e w' ⟨rfl, rfl⟩))
        | (go_at_call 202; ((with_reducible refine HN2.out.mono ?_); rintro e w' ⟨rfl, rfl⟩))
        | (go_at_call 173; refine HS.out.mono ?_; rintro e w' ⟨rfl, rfl⟩))
      go_ret
      exact cuts_nat (v := S - 1) rfl HRl.out.1 (by rw [← HR.out]; exact Nat.mod_eq_of_lt (by have := HRl.out.2.2; omega))
  · simp only [hc, decide_false] at HT
    have hr := hin hc
    obtain ⟨R, hR⟩ : ∃ R : Nat, R = toN n (clampS n (sg n a + sg n b)) := ⟨_, rfl⟩
    rw [← hR] at hr ⊢
    have HT2 := hid HT
    have HL := hid hsl
    have HR := hid hr
    clear h1 h2 h3 h4 hs hin hout hc HT HNa hxe hye hze hxl hyl hzl hn ha hb hR hsl hr
    go_enter Tryz.func176, Tryz.ntmps176
    go_wp2_with (go_at_call 202; ((with_reducible refine HT2.out.mono ?_); rintro e w' ⟨rfl, rfl⟩))
    go_ret
    exact cuts_nat (v := s) rfl HL.out HR.out
set_option maxHeartbeats 800000 in
theorem sub_sat_s (n : Nat) (hn : Okn n) (a b : Nat) (ha : a < 2 ^ n) (hb : b < 2 ^ n) (w : World) :
    Calls Tryz.prog 176 #[.int .i64 n, .int .i64 18, .int .u64 a, .int .u64 b] w (Cuts n (satR n 18 a b) w) := by
  obtain ⟨h1, h2, h3, h4⟩ := pow_lt64 hn
  have HS := hid (sign_any n hn w)
  have hmx := xor_max b (by omega)
  obtain ⟨c, hcb⟩ : ∃ c : Nat, c = 18446744073709551615 - b := ⟨_, rfl⟩
  rw [← hcb] at hmx
  obtain ⟨s0, hs0⟩ : ∃ s : Nat, s = (a + c) % 18446744073709551616 := ⟨_, rfl⟩
  have hw0 : IntKind.u64.wrap ((a : Int) + (c : Int)) = (s0 : Int) := by rw [IntKind.wrap_u64]; omega
  obtain ⟨s, hs⟩ : ∃ s : Nat, s = (a + c + 1) % 18446744073709551616 := ⟨_, rfl⟩
  have hsl : s < 18446744073709551616 := by omega
  have hw : IntKind.u64.wrap ((s0 : Int) + 1) = (s : Int) := by rw [IntKind.wrap_u64]; omega
  have hx := bits_xor_u64_nat a s (by omega) hsl
  have hy := bits_xor_u64_nat c s (by omega) hsl
  have hxl : a ^^^ s < 18446744073709551616 := Nat.xor_lt_two_pow (n := 64) (by omega) hsl
  have hyl : c ^^^ s < 18446744073709551616 := Nat.xor_lt_two_pow (n := 64) (by omega) hsl
  have hz := bits_and_u64_nat _ _ hxl hyl
  have hzl : (a ^^^ s) &&& (c ^^^ s) < 18446744073709551616 := Nat.and_lt_two_pow (n := 64) _ hyl
  have HT := negative_any n hn _ hzl _ (sat_bits (b := c) hn) w
  have HNa := negative_any n hn a (by omega) _ (testBit_top hn ha) w
  have hin := sub_in hn ha hb hcb
  have hout := sub_out hn ha hb hcb
  rw [← hs] at hin hout
  rw [satR, if_neg (by decide), if_pos rfl]
  obtain ⟨x, hxe⟩ : ∃ x : Nat, x = a ^^^ s := ⟨_, rfl⟩
  obtain ⟨y, hye⟩ : ∃ y : Nat, y = c ^^^ s := ⟨_, rfl⟩
  obtain ⟨z, hze⟩ : ∃ z : Nat, z = x &&& y := ⟨_, rfl⟩
  rw [← hxe] at hx hz HT
  rw [← hye] at hy hz HT
  rw [← hze] at hz HT
  by_cases hc : ¬ (2 ^ (n - 1) ≤ a % 2 ^ n ↔ 2 ^ (n - 1) ≤ s % 2 ^ n) ∧ ¬ (2 ^ (n - 1) ≤ c % 2 ^ n ↔ 2 ^ (n - 1) ≤ s % 2 ^ n)
  · simp only [hc, not_false_eq_true, and_self, decide_true] at HT
    have hr := hout hc
    obtain ⟨R, hR⟩ : ∃ R : Nat, R = toN n (clampS n (sg n a - sg n b)) := ⟨_, rfl⟩
    rw [← hR] at hr ⊢
    obtain ⟨S, hS⟩ : ∃ S : Nat, S = 2 ^ (n - 1) := ⟨_, rfl⟩
    rw [← hS] at HS hr HNa
    have hS1 : IntKind.u64.wrap ((S : Int) - 1) = ((S - 1 : Nat) : Int) := by rw [IntKind.wrap_u64]; omega
    have hRl : S - 1 < 18446744073709551616 ∧ S < 18446744073709551616 ∧ S < 2 ^ n := ⟨by omega, by omega, by omega⟩
    have HRl := hid hRl
    have HT2 := hid HT
    by_cases hca : S ≤ a
    · simp only [hca, decide_true] at HNa
      rw [if_pos hca] at hr
      have HN2 := hid HNa
      have HR := hid hr
      clear hr hcb hs0 h1 h2 h3 h4 hs hin hout hc HT HNa hxe hye hze hxl hyl hzl hS hRl hn ha hb hR hca hsl
      go_enter Tryz.func176, Tryz.ntmps176
      go_wp2_with (first
        | (go_at_call 202; ((with_reducible refine HT2.out.mono ?_); rintro e w' ⟨rfl, rfl⟩))
        | (go_at_call 202; ((with_reducible refine HN2.out.mono ?_); rintro e w' ⟨rfl, rfl⟩))
        | (go_at_call 173; refine HS.out.mono ?_; rintro e w' ⟨rfl, rfl⟩))
      go_ret
      exact cuts_nat (v := S) rfl HRl.out.2.1 (by rw [← HR.out]; exact Nat.mod_eq_of_lt HRl.out.2.2)
    · simp only [hca, decide_false] at HNa
      rw [if_neg hca] at hr
      have HN2 := hid HNa
      have HR := hid hr
      clear hr hcb hs0 h1 h2 h3 h4 hs hin hout hc HT HNa hxe hye hze hxl hyl hzl hS hRl hn ha hb hR hca hsl
      go_enter Tryz.func176, Tryz.ntmps176
      go_wp2_with (first
        | (go_at_call 202; ((with_reducible refine HT2.out.mono ?_); rintro e w' ⟨rfl, rfl⟩))
        | (go_at_call 202; ((with_reducible refine HN2.out.mono ?_); rintro e w' ⟨rfl, rfl⟩))
        | (go_at_call 173; refine HS.out.mono ?_; rintro e w' ⟨rfl, rfl⟩))
      go_ret
      exact cuts_nat (v := S - 1) rfl HRl.out.1 (by rw [← HR.out]; exact Nat.mod_eq_of_lt (by have := HRl.out.2.2; omega))
  · simp only [hc, decide_false] at HT
    have hr := hin hc
    obtain ⟨R, hR⟩ : ∃ R : Nat, R = toN n (clampS n (sg n a - sg n b)) := ⟨_, rfl⟩
    rw [← hR] at hr ⊢
    have HT2 := hid HT
    have HL := hid hsl
    have HR := hid hr
    clear hcb hs0 h1 h2 h3 h4 hs hin hout hc HT HNa hxe hye hze hxl hyl hzl hn ha hb hR hsl hr
    go_enter Tryz.func176, Tryz.ntmps176
    go_wp2_with (go_at_call 202; ((with_reducible refine HT2.out.mono ?_); rintro e w' ⟨rfl, rfl⟩))
    go_ret
    exact cuts_nat (v := s) rfl HL.out HR.out
/-- saturated: the document's number, when it is cut. -/
theorem saturated_any (n : Nat) (hn : Okn n) (op : Nat) (h1 : 16 ≤ op) (h2 : op ≤ 19) (a b : Nat) (ha : a < 2 ^ n) (hb : b < 2 ^ n) (w : World) :
    Calls Tryz.prog 176 #[.int .i64 n, .int .i64 op, .int .u64 a, .int .u64 b] w (Cuts n (satR n op a b) w) := by
  have hop : op = 16 ∨ op = 17 ∨ op = 18 ∨ op = 19 := by omega
  rcases hop with rfl | rfl | rfl | rfl
  · exact add_sat_s n hn a b ha hb w
  · exact add_sat_u n hn a b ha hb w
  · exact sub_sat_s n hn a b ha hb w
  · exact sub_sat_u n hn a b ha w
theorem mm_s (n : Nat) (hn : Okn n) (op : Nat) (hop : op = 20 ∨ op = 22) (a b : Nat) (ha : a < 2 ^ n) (hb : b < 2 ^ n) (w : World) :
    Calls Tryz.prog 177 #[.int .i64 n, .int .i64 op, .int .u64 a, .int .u64 b] w (Cuts n (mmR n op a b) w) := by
  obtain ⟨h1, h2, h3, h4⟩ := pow_lt64 hn
  have HS := hid (sign_any n hn w)
  have hx := xor_turned hn ha
  have hy := xor_turned hn hb
  have hx2 := xor_turned hn (turned_lt hn ha)
  have hy2 := xor_turned hn (turned_lt hn hb)
  rw [turned_turned hn ha] at hx2
  rw [turned_turned hn hb] at hy2
  have ea := turned_sg (a := a) hn
  have eb := turned_sg (a := b) hn
  have hj : sg n a = sg n b → a = b := fun h => by rw [← turned_turned hn ha, ← turned_turned hn hb]; congr 1; omega
  obtain ⟨S, hS⟩ : ∃ S : Nat, S = 2 ^ (n - 1) := ⟨_, rfl⟩
  obtain ⟨x, hxe⟩ : ∃ x : Nat, x = turned n a := ⟨_, rfl⟩
  obtain ⟨y, hye⟩ : ∃ y : Nat, y = turned n b := ⟨_, rfl⟩
  rw [← hS] at HS hx hy hx2 hy2 ea eb
  rw [← hxe] at hx hx2 ea
  rw [← hye] at hy hy2 eb
  have HA := hid (show a < 2 ^ n ∧ b < 2 ^ n ∧ 2 ^ n ≤ 18446744073709551616 ∧ (x : Int) = sg n a + S ∧ (y : Int) = sg n b + S ∧ (sg n a = sg n b → a = b) from ⟨ha, hb, h3, ea, eb, hj⟩)
  clear h1 h2 h3 h4 ha hb ea eb hj hS hxe hye hn
  rcases hop with rfl | rfl
  · show Calls Tryz.prog 177 #[.int .i64 n, .int .i64 20, .int .u64 a, .int .u64 b] w _
    go_enter Tryz.func177, Tryz.ntmps177
    go_wp2_with (go_at_call 173; refine HS.out.mono ?_; rintro e w' ⟨rfl, rfl⟩)
    all_goals
      go_ret
      obtain ⟨ha, hb, h3, ea, eb, hj⟩ := HA.out
      refine cuts_nat (v := mmR n 20 a b) ?_ ?_ ?_
      all_goals
        rw [mmR, if_pos rfl]
        split
      all_goals first | rfl | omega | (rw [Nat.mod_eq_of_lt (by omega)])
  · show Calls Tryz.prog 177 #[.int .i64 n, .int .i64 22, .int .u64 a, .int .u64 b] w _
    go_enter Tryz.func177, Tryz.ntmps177
    go_wp2_with (go_at_call 173; refine HS.out.mono ?_; rintro e w' ⟨rfl, rfl⟩)
    all_goals
      go_ret
      obtain ⟨ha, hb, h3, ea, eb, hj⟩ := HA.out
      refine cuts_nat (v := mmR n 22 a b) ?_ ?_ ?_
      all_goals
        rw [mmR, if_neg (by decide), if_pos rfl]
        split
      all_goals first | rfl | omega | (rw [Nat.mod_eq_of_lt (by omega)])
theorem mm_u (n : Nat) (hn : Okn n) (op : Nat) (hop : op = 21 ∨ op = 23) (a b : Nat) (ha : a < 2 ^ n) (hb : b < 2 ^ n) (w : World) :
    Calls Tryz.prog 177 #[.int .i64 n, .int .i64 op, .int .u64 a, .int .u64 b] w (Cuts n (mmR n op a b) w) := by
  obtain ⟨h1, h2, h3, h4⟩ := pow_lt64 hn
  have hx := xor_zero a (by omega)
  have hy := xor_zero b (by omega)
  have HA := hid (show a < 2 ^ n ∧ b < 2 ^ n ∧ 2 ^ n ≤ 18446744073709551616 from ⟨ha, hb, h3⟩)
  clear h1 h2 h3 h4 ha hb hn
  rcases hop with rfl | rfl
  · show Calls Tryz.prog 177 #[.int .i64 n, .int .i64 21, .int .u64 a, .int .u64 b] w _
    go_enter Tryz.func177, Tryz.ntmps177
    go_wp2
    all_goals
      go_ret
      obtain ⟨ha, hb, h3⟩ := HA.out
      refine cuts_nat (v := mmR n 21 a b) ?_ ?_ ?_
      all_goals
        rw [mmR, if_neg (by decide), if_neg (by decide), if_pos rfl]
        split
      all_goals first | rfl | omega | (rw [Nat.mod_eq_of_lt (by omega)])
  · show Calls Tryz.prog 177 #[.int .i64 n, .int .i64 23, .int .u64 a, .int .u64 b] w _
    go_enter Tryz.func177, Tryz.ntmps177
    go_wp2
    all_goals
      go_ret
      obtain ⟨ha, hb, h3⟩ := HA.out
      refine cuts_nat (v := mmR n 23 a b) ?_ ?_ ?_
      all_goals
        rw [mmR, if_neg (by decide), if_neg (by decide), if_neg (by decide)]
        split
      all_goals first | rfl | omega | (rw [Nat.mod_eq_of_lt (by omega)])
/-- chosen: the document's number, when it is cut. -/
theorem chosen_any (n : Nat) (hn : Okn n) (op : Nat) (h1 : 20 ≤ op) (h2 : op ≤ 23) (a b : Nat) (ha : a < 2 ^ n) (hb : b < 2 ^ n) (w : World) :
    Calls Tryz.prog 177 #[.int .i64 n, .int .i64 op, .int .u64 a, .int .u64 b] w (Cuts n (mmR n op a b) w) := by
  have hop : (op = 20 ∨ op = 22) ∨ (op = 21 ∨ op = 23) := by omega
  rcases hop with h | h
  · exact mm_s n hn op h a b ha hb w
  · exact mm_u n hn op h a b ha hb w
theorem sg_range {n a : Nat} (hn : Okn n) (ha : a < 2 ^ n) : -((2 ^ (n - 1) : Nat) : Int) ≤ sg n a ∧ sg n a < ((2 ^ (n - 1) : Nat) : Int) := by
  obtain ⟨h1, h2, h3, h4⟩ := pow_lt64 hn
  unfold sg; split <;> omega
theorem mul_range {A B : Int} (h1 : -32768 ≤ A) (h2 : A ≤ 32767) (h3 : -32768 ≤ B) (h4 : B ≤ 32767) : -1073709056 ≤ A * B ∧ A * B ≤ 1073741824 := by
  have ha : (A.natAbs : Int) ≤ 32768 := by omega
  have p1 : 0 ≤ (A + 32768) * (B + 32768) := Int.mul_nonneg (by omega) (by omega)
  have p2 : 0 ≤ (32767 - A) * (32767 - B) := Int.mul_nonneg (by omega) (by omega)
  have p3 : 0 ≤ (A + 32768) * (32767 - B) := Int.mul_nonneg (by omega) (by omega)
  have p4 : 0 ≤ (32767 - A) * (B + 32768) := Int.mul_nonneg (by omega) (by omega)
  simp only [Int.add_mul, Int.mul_add, Int.sub_mul, Int.mul_sub] at p1 p2 p3 p4
  generalize A * B = P at *
  by_cases hA : 0 ≤ A <;> by_cases hB : 0 ≤ B <;> omega
theorem fraction_any (a b : Nat) (ha : a < 2 ^ 16) (hb : b < 2 ^ 16) (w : World) :
    Calls Tryz.prog 178 #[.int .u64 a, .int .u64 b] w (Cuts 16 (toN 16 (clampS 16 ((sg 16 a * sg 16 b + 16384) / 32768))) w) := by
  have hn : Okn 16 := .inr (.inl rfl)
  have hrA := sg_range hn ha
  have hrB := sg_range hn hb
  have hGA : Calls Tryz.prog 121 #[.int .i64 16, .int .u64 a] w _ := Signed_ok 16 hn a (by omega) w
  have hGB : Calls Tryz.prog 121 #[.int .i64 16, .int .u64 b] w _ := Signed_ok 16 hn b (by omega) w
  rw [Nat.mod_eq_of_lt ha] at hGA
  rw [Nat.mod_eq_of_lt hb] at hGB
  obtain ⟨A, hA⟩ : ∃ A, A = sg 16 a := ⟨_, rfl⟩
  obtain ⟨B, hB⟩ : ∃ B, B = sg 16 b := ⟨_, rfl⟩
  rw [← hA] at hrA hGA
  rw [← hB] at hrB hGB
  rw [← hA, ← hB]
  have hm := mul_range (A := A) (B := B) (by simpa using hrA.1) (by have := hrA.2; simp at this; omega) (by simpa using hrB.1) (by have := hrB.2; simp at this; omega)
  obtain ⟨P, hP⟩ : ∃ P, P = A * B := ⟨_, rfl⟩
  rw [← hP] at hm ⊢
  have hw1 : wrap64 (A * B) = P := by rw [← hP]; unfold wrap64; omega
  have hw2 : wrap64 (P + 16384) = P + 16384 := by unfold wrap64; omega
  have HGA := hid hGA
  have HGB := hid hGB
  have HM := hid hm
  clear hGA hGB hm hA hB hrA hrB hn hP
  go_enter Tryz.func178, Tryz.ntmps178
  go_wp2_with (first
    | (go_at_call 121; ((with_reducible refine HGA.out.mono ?_); rintro e w' ⟨rfl, rfl⟩))
    | (go_at_call 121; ((with_reducible refine HGB.out.mono ?_); rintro e w' ⟨rfl, rfl⟩)))
  all_goals
    go_ret
    have hm := HM.out
    refine cuts_wrap (.inr (.inl rfl)) ?_
    congr 1
    unfold clampS
    simp only [Nat.reduceSub, Nat.reducePow]
    split <;> (try split) <;> omega
end Go.Proofs.YtlhakbkdlgejpaaGreatDoor
namespace Go.Proofs.YtlhakbkdlgejpaaGreatDoor
open Go
theorem ex_then {K : Act → World → Prop} {Q : Exit → Act → World → Prop} {id : Nat} {a : Act} {w : World} (h : Q (.exit id) a w) : Exit.then K Q (.exit id) a w := h
theorem ex_norm {K : Act → World → Prop} {Q : Exit → Act → World → Prop} {a : Act} {w : World} (h : K a w) : Exit.then K Q .normal a w := h
theorem ex_here {Q : Exit → Act → World → Prop} {id : Nat} {a : Act} {w : World} (h : Q .normal a w) : Exit.inBlock id Q (.exit id) a w := by
  simp [Exit.inBlock, h]
theorem ex_pass {Q : Exit → Act → World → Prop} {id id' : Nat} {a : Act} {w : World} (hne : Nat.beq id' id = false) (h : Q (.exit id') a w) : Exit.inBlock id Q (.exit id') a w := by
  have : id' ≠ id := Nat.ne_of_beq_eq_false hne
  simp [Exit.inBlock, this, h]
end Go.Proofs.YtlhakbkdlgejpaaGreatDoor
