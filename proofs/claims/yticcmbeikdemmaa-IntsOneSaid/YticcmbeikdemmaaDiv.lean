/-
  The contract of the program's divided. Condition: the bits are 8, 16, 32 or 64, the numbers are cut.
-/
import Derived.Test.YticcmbeikdemmaaSmall
namespace Go.Proofs.Yticcmbeikdemmaa
open Go.RowKit

theorem ret_two {k k' : IntKind} {a b : Int} {c d : Int} (h : a = b) (h' : c = d) : Ending.returned (.tuple #[.int k a, .int k' c]) = .returned (.tuple #[.int k b, .int k' d]) := by rw [h, h']

theorem div_zero (n : Nat) (op : Int) (a : Nat) (w : World) :
    Calls Try.prog 27 #[.int .i64 n, .int .i64 op, .int .u64 a, .int .u64 0] w fun e w' => e = .returned (.tuple #[.int .u64 0, .int .i64 41]) ∧ w = w' := by
  go_enter Try.func27, Try.ntmps27
  go_wp2
  go_ret2
  exact ⟨rfl, rfl⟩

theorem wrap_nat {q : Nat} (h : q < 18446744073709551616) : IntKind.u64.wrap (q : Int) = (q : Int) := by
  rw [IntKind.wrap_u64]; omega

/-- A quotient or a rest without signs, cut at the end. -/
theorem div_u (n : Nat) (hn : Okn n) (a b : Nat) (ha : a < 2 ^ n) (hb : b ≠ 0) (w : World) :
    Calls Try.prog 27 #[.int .i64 n, .int .i64 5, .int .u64 a, .int .u64 b] w fun e w' => e = .returned (.tuple #[.int .u64 ((a / b : Nat) : Int), .int .i64 0]) ∧ w = w' := by
  obtain ⟨h1, h2, h3, h4⟩ := pow_lt64 hn
  have hd : a / b ≤ a := Nat.div_le_self _ _
  have HC := hid (cut_any n hn (a / b) (by omega) w)
  rw [Nat.mod_eq_of_lt (by omega)] at HC
  have hne : ((b : Int) == 0) = false := by simp; omega
  have hb0 : 0 < (b : Int) := by omega
  obtain ⟨q, hq⟩ : ∃ q : Nat, q = a / b := ⟨_, rfl⟩
  have hqq : (a : Int) / (b : Int) = (q : Int) := by rw [hq]; simp
  have hqw := wrap_nat (show q < 18446744073709551616 by omega)
  rw [← hq] at HC ⊢
  clear h1 h2 h3 h4 ha hd hq
  go_enter Try.func27, Try.ntmps27
  go_wp2_with (go_at_call 26; refine HC.out.mono ?_; rintro e w' ⟨rfl, rfl⟩)
  go_ret2
  exact ⟨rfl, rfl⟩

theorem rem_u (n : Nat) (hn : Okn n) (a b : Nat) (ha : a < 2 ^ n) (hb : b ≠ 0) (w : World) :
    Calls Try.prog 27 #[.int .i64 n, .int .i64 7, .int .u64 a, .int .u64 b] w fun e w' => e = .returned (.tuple #[.int .u64 ((a % b : Nat) : Int), .int .i64 0]) ∧ w = w' := by
  obtain ⟨h1, h2, h3, h4⟩ := pow_lt64 hn
  have hd : a % b ≤ a := Nat.mod_le _ _
  have HC := hid (cut_any n hn (a % b) (by omega) w)
  rw [Nat.mod_eq_of_lt (show a % b < 2 ^ n by omega)] at HC
  have hne : ((b : Int) == 0) = false := by simp; omega
  have hb0 : 0 < (b : Int) := by omega
  obtain ⟨q, hq⟩ : ∃ q : Nat, q = a % b := ⟨_, rfl⟩
  have hqq : (a : Int) % (b : Int) = (q : Int) := by rw [hq]; simp
  rw [← hq] at HC ⊢
  clear h1 h2 h3 h4 ha hd hq
  go_enter Try.func27, Try.ntmps27
  go_wp2_with (go_at_call 26; refine HC.out.mono ?_; rintro e w' ⟨rfl, rfl⟩)
  go_ret2
  exact ⟨rfl, rfl⟩

theorem natAbs_pos_of {n b : Nat} (hb : b ≠ 0) (hlt : b < 2 ^ n) : 0 < (sg n b).natAbs := by
  rw [sg_abs hlt]; split <;> omega

theorem size_le {n x : Nat} (hn : Okn n) (hx : x < 2 ^ n) : (sg n x).natAbs ≤ 2 ^ (n - 1) := by
  obtain ⟨h1, h2, h3, h4⟩ := pow_lt64 hn
  rw [sg_abs hx]; split <;> omega

/-- The sign of a cut number, as a test. -/
def neg1 (n x : Nat) : Bool := decide (2 ^ (n - 1) ≤ x)

theorem neg1_iff {n x : Nat} (hx : x < 2 ^ n) : neg1 n x = decide (sg n x < 0) := by
  unfold neg1
  exact decide_eq_decide.2 (sg_neg hx).symm

set_option maxHeartbeats 800000 in
theorem rem_s (n : Nat) (hn : Okn n) (a b : Nat) (ha : a < 2 ^ n) (hb : b ≠ 0) (hbn : b < 2 ^ n) (w : World) :
    Calls Try.prog 27 #[.int .i64 n, .int .i64 6, .int .u64 a, .int .u64 b] w fun e w' => e = .returned (.tuple #[.int .u64 ((toN n ((sg n a).tmod (sg n b)) : Nat) : Int), .int .i64 0]) ∧ w = w' := by
  obtain ⟨h1, h2, h3, h4⟩ := pow_lt64 hn
  have hne : ((b : Int) == 0) = false := by simp; omega
  have HA := hid (size_any n hn a ha w)
  have HB := hid (size_any n hn b hbn w)
  have hA := size_le hn ha
  have hB0 := natAbs_pos_of hb hbn
  obtain ⟨A, hAe⟩ : ∃ A : Nat, A = (sg n a).natAbs := ⟨_, rfl⟩
  obtain ⟨B, hBe⟩ : ∃ B : Nat, B = (sg n b).natAbs := ⟨_, rfl⟩
  obtain ⟨q, hq⟩ : ∃ q : Nat, q = A % B := ⟨_, rfl⟩
  have hqA : q ≤ A := by rw [hq]; exact Nat.mod_le _ _
  have hqq : (A : Int) % (B : Int) = (q : Int) := by rw [hq]; simp
  by_cases hs : sg n a < 0
  · have HN := hid (negative_any n hn a (by omega) true (by rw [testBit_top hn ha]; simp [(sg_neg ha).1 hs]) w)
    have hv : toN n ((sg n a).tmod (sg n b)) = (18446744073709551616 - q) % 18446744073709551616 % 2 ^ n := by
      rw [tmod_negs hs, ← hAe, ← hBe, ← hq, toN_neg hn q (by omega)]
    have hw : IntKind.u64.wrap (-(q : Int)) = (((18446744073709551616 - q) % 18446744073709551616 : Nat) : Int) := by
      rw [IntKind.wrap_u64]; omega
    have HC := hid (cut_any n hn ((18446744073709551616 - q) % 18446744073709551616) (by omega) w)
    rw [hv]
    obtain ⟨r, hr⟩ : ∃ r : Nat, r = (18446744073709551616 - q) % 18446744073709551616 := ⟨_, rfl⟩
    rw [← hr] at hw HC ⊢
    rw [← hAe] at HA hA
    rw [← hBe] at HB hB0
    have hb0 : 0 < (B : Int) := by omega
    clear h1 h2 h3 h4 ha hbn hb hA hB0 hAe hBe hq hqA hs hv hr hn
    go_enter Try.func27, Try.ntmps27
    go_wp2_with (first
      | (go_at_call 44; refine HN.out.mono ?_; rintro e w' ⟨rfl, rfl⟩)
      | (go_at_call 42; ((with_reducible refine HA.out.mono ?_); rintro e w' ⟨rfl, rfl⟩))
      | (go_at_call 42; ((with_reducible refine HB.out.mono ?_); rintro e w' ⟨rfl, rfl⟩))
      | (go_at_call 26; refine HC.out.mono ?_; rintro e w' ⟨rfl, rfl⟩))
    go_ret2
    exact ⟨rfl, rfl⟩
  · have HN := hid (negative_any n hn a (by omega) false (by rw [testBit_top hn ha]; have := (not_congr (sg_neg ha)).1 hs; simp [this]) w)
    have hv : toN n ((sg n a).tmod (sg n b)) = q % 2 ^ n := by
      rw [tmod_pos hs, ← hAe, ← hBe, ← hq, toN_nat]
    have HC := hid (cut_any n hn q (by omega) w)
    rw [hv]
    rw [← hAe] at HA hA
    rw [← hBe] at HB hB0
    have hb0 : 0 < (B : Int) := by omega
    clear h1 h2 h3 h4 ha hbn hb hA hB0 hAe hBe hq hqA hs hv hn
    go_enter Try.func27, Try.ntmps27
    go_wp2_with (first
      | (go_at_call 44; refine HN.out.mono ?_; rintro e w' ⟨rfl, rfl⟩)
      | (go_at_call 42; ((with_reducible refine HA.out.mono ?_); rintro e w' ⟨rfl, rfl⟩))
      | (go_at_call 42; ((with_reducible refine HB.out.mono ?_); rintro e w' ⟨rfl, rfl⟩))
      | (go_at_call 26; refine HC.out.mono ?_; rintro e w' ⟨rfl, rfl⟩))
    go_ret2
    exact ⟨rfl, rfl⟩

theorem div_over (n : Nat) (hn : Okn n) (w : World) :
    Calls Try.prog 27 #[.int .i64 n, .int .i64 4, .int .u64 ((2 ^ (n - 1) : Nat) : Int), .int .u64 ((2 ^ n - 1 : Nat) : Int)] w fun e w' => e = .returned (.tuple #[.int .u64 0, .int .i64 42]) ∧ w = w' := by
  obtain ⟨h1, h2, h3, h4⟩ := pow_lt64 hn
  have HO := hid (ones_any n hn w)
  have HS := hid (sign_any n hn w)
  obtain ⟨S, hS⟩ : ∃ S : Nat, S = 2 ^ (n - 1) := ⟨_, rfl⟩
  obtain ⟨O, hO⟩ : ∃ O : Nat, O = 2 ^ n - 1 := ⟨_, rfl⟩
  have hne : ((O : Int) == 0) = false := by simp; omega
  rw [← hS, ← hO]
  rw [← hS] at HS
  rw [← hO] at HO
  clear h1 h2 h3 h4 hS hO hn
  go_enter Try.func27, Try.ntmps27
  go_wp2_with (first
    | (go_at_call 39; refine HS.out.mono ?_; rintro e w' ⟨rfl, rfl⟩)
    | (go_at_call 43; refine HO.out.mono ?_; rintro e w' ⟨rfl, rfl⟩))
  go_ret2
  exact ⟨rfl, rfl⟩

set_option maxHeartbeats 1600000 in
theorem div_s (n : Nat) (hn : Okn n) (a b : Nat) (ha : a < 2 ^ n) (hb : b ≠ 0) (hbn : b < 2 ^ n) (hno : ¬ (a = 2 ^ (n - 1) ∧ b = 2 ^ n - 1)) (w : World) :
    Calls Try.prog 27 #[.int .i64 n, .int .i64 4, .int .u64 a, .int .u64 b] w fun e w' => e = .returned (.tuple #[.int .u64 ((toN n ((sg n a).tdiv (sg n b)) : Nat) : Int), .int .i64 0]) ∧ w = w' := by
  obtain ⟨h1, h2, h3, h4⟩ := pow_lt64 hn
  have hne : ((b : Int) == 0) = false := by simp; omega
  have HO := hid (ones_any n hn w)
  have HS := hid (sign_any n hn w)
  have HA := hid (size_any n hn a ha w)
  have HB := hid (size_any n hn b hbn w)
  have hA := size_le hn ha
  have hB0 := natAbs_pos_of hb hbn
  obtain ⟨S, hS⟩ : ∃ S : Nat, S = 2 ^ (n - 1) := ⟨_, rfl⟩
  obtain ⟨O, hO⟩ : ∃ O : Nat, O = 2 ^ n - 1 := ⟨_, rfl⟩
  obtain ⟨A, hAe⟩ : ∃ A : Nat, A = (sg n a).natAbs := ⟨_, rfl⟩
  obtain ⟨B, hBe⟩ : ∃ B : Nat, B = (sg n b).natAbs := ⟨_, rfl⟩
  obtain ⟨q, hq⟩ : ∃ q : Nat, q = A / B := ⟨_, rfl⟩
  have hqA : q ≤ A := by rw [hq]; exact Nat.div_le_self _ _
  have hqq : (A : Int) / (B : Int) = (q : Int) := by rw [hq]; simp
  have hqw := wrap_nat (show q < 18446744073709551616 by omega)
  have hw : IntKind.u64.wrap (-(q : Int)) = (((18446744073709551616 - q) % 18446744073709551616 : Nat) : Int) := by
    rw [IntKind.wrap_u64]; omega
  have HC1 := hid (cut_any n hn ((18446744073709551616 - q) % 18446744073709551616) (by omega) w)
  have HC2 := hid (cut_any n hn q (by omega) w)
  have hv1 : ¬ (sg n a < 0 ↔ sg n b < 0) → toN n ((sg n a).tdiv (sg n b)) = (18446744073709551616 - q) % 18446744073709551616 % 2 ^ n := fun hs => by
    rw [tdiv_other hs, ← hAe, ← hBe, ← hq, toN_neg hn q (by omega)]
  have hv2 : (sg n a < 0 ↔ sg n b < 0) → toN n ((sg n a).tdiv (sg n b)) = q % 2 ^ n := fun hs => by
    rw [tdiv_same hs, ← hAe, ← hBe, ← hq, toN_nat]
  obtain ⟨r, hr⟩ : ∃ r : Nat, r = (18446744073709551616 - q) % 18446744073709551616 := ⟨_, rfl⟩
  have hNa := negative_any n hn a (by omega) _ (testBit_top hn ha) w
  have hNb := negative_any n hn b (by omega) _ (testBit_top hn hbn) w
  rw [sg_neg ha, sg_neg hbn] at hv1 hv2
  rw [← hS] at HS hNa hNb hv1 hv2 hno
  rw [← hO] at HO hno
  rw [← hr] at HC1 hw hv1
  rw [← hAe] at HA
  rw [← hBe] at HB hB0
  obtain ⟨V, hV⟩ : ∃ V : Nat, V = toN n ((sg n a).tdiv (sg n b)) := ⟨_, rfl⟩
  rw [← hV] at hv1 hv2 ⊢
  have hb0 : 0 < (B : Int) := by omega
  have HV1 := hid hv1
  have HV2 := hid hv2
  clear hv1 hv2 h1 h2 h3 h4 ha hbn hb hA hB0 hAe hBe hq hqA hr hn hS hO hV
  have hor : ((a : Int) == (S : Int)) = true ∧ ((b : Int) == (O : Int)) = false ∨ ((a : Int) == (S : Int)) = false := by
    by_cases hoa : a = S
    · exact .inl ⟨by simp [hoa], by have : ¬ b = O := fun h => hno ⟨hoa, h⟩
                                    simp; omega⟩
    · exact .inr (by simp; omega)
  clear hno
  by_cases hca : S ≤ a <;> by_cases hcb : S ≤ b
  all_goals
    simp only [hca, hcb, decide_true, decide_false] at hNa hNb
    have HNa := hid hNa
    have HNb := hid hNb
    clear hNa hNb
  · rw [HV2.out (by simp [hca, hcb])]
    clear HV1 HV2 hca hcb
    rcases hor with ⟨ea, eb⟩ | ea
    all_goals
      go_enter Try.func27, Try.ntmps27
      go_wp2_with (first
        | (go_at_call 39; refine HS.out.mono ?_; rintro e w' ⟨rfl, rfl⟩)
        | (go_at_call 43; refine HO.out.mono ?_; rintro e w' ⟨rfl, rfl⟩)
        | (go_at_call 44; ((with_reducible refine HNa.out.mono ?_); rintro e w' ⟨rfl, rfl⟩))
        | (go_at_call 44; ((with_reducible refine HNb.out.mono ?_); rintro e w' ⟨rfl, rfl⟩))
        | (go_at_call 42; ((with_reducible refine HA.out.mono ?_); rintro e w' ⟨rfl, rfl⟩))
        | (go_at_call 42; ((with_reducible refine HB.out.mono ?_); rintro e w' ⟨rfl, rfl⟩))
        | (go_at_call 26; refine HC2.out.mono ?_; rintro e w' ⟨rfl, rfl⟩))
      go_ret2
      exact ⟨rfl, rfl⟩
  · rw [HV1.out (by simp [hca, hcb])]
    clear HV1 HV2 hca hcb
    rcases hor with ⟨ea, eb⟩ | ea
    all_goals
      go_enter Try.func27, Try.ntmps27
      go_wp2_with (first
        | (go_at_call 39; refine HS.out.mono ?_; rintro e w' ⟨rfl, rfl⟩)
        | (go_at_call 43; refine HO.out.mono ?_; rintro e w' ⟨rfl, rfl⟩)
        | (go_at_call 44; ((with_reducible refine HNa.out.mono ?_); rintro e w' ⟨rfl, rfl⟩))
        | (go_at_call 44; ((with_reducible refine HNb.out.mono ?_); rintro e w' ⟨rfl, rfl⟩))
        | (go_at_call 42; ((with_reducible refine HA.out.mono ?_); rintro e w' ⟨rfl, rfl⟩))
        | (go_at_call 42; ((with_reducible refine HB.out.mono ?_); rintro e w' ⟨rfl, rfl⟩))
        | (go_at_call 26; refine HC1.out.mono ?_; rintro e w' ⟨rfl, rfl⟩))
      go_ret2
      exact ⟨rfl, rfl⟩
  · rw [HV1.out (by simp [hca, hcb])]
    clear HV1 HV2 hca hcb
    rcases hor with ⟨ea, eb⟩ | ea
    all_goals
      go_enter Try.func27, Try.ntmps27
      go_wp2_with (first
        | (go_at_call 39; refine HS.out.mono ?_; rintro e w' ⟨rfl, rfl⟩)
        | (go_at_call 43; refine HO.out.mono ?_; rintro e w' ⟨rfl, rfl⟩)
        | (go_at_call 44; ((with_reducible refine HNa.out.mono ?_); rintro e w' ⟨rfl, rfl⟩))
        | (go_at_call 44; ((with_reducible refine HNb.out.mono ?_); rintro e w' ⟨rfl, rfl⟩))
        | (go_at_call 42; ((with_reducible refine HA.out.mono ?_); rintro e w' ⟨rfl, rfl⟩))
        | (go_at_call 42; ((with_reducible refine HB.out.mono ?_); rintro e w' ⟨rfl, rfl⟩))
        | (go_at_call 26; refine HC1.out.mono ?_; rintro e w' ⟨rfl, rfl⟩))
      go_ret2
      exact ⟨rfl, rfl⟩
  · rw [HV2.out (by simp [hca, hcb])]
    clear HV1 HV2 hca hcb
    rcases hor with ⟨ea, eb⟩ | ea
    all_goals
      go_enter Try.func27, Try.ntmps27
      go_wp2_with (first
        | (go_at_call 39; refine HS.out.mono ?_; rintro e w' ⟨rfl, rfl⟩)
        | (go_at_call 43; refine HO.out.mono ?_; rintro e w' ⟨rfl, rfl⟩)
        | (go_at_call 44; ((with_reducible refine HNa.out.mono ?_); rintro e w' ⟨rfl, rfl⟩))
        | (go_at_call 44; ((with_reducible refine HNb.out.mono ?_); rintro e w' ⟨rfl, rfl⟩))
        | (go_at_call 42; ((with_reducible refine HA.out.mono ?_); rintro e w' ⟨rfl, rfl⟩))
        | (go_at_call 42; ((with_reducible refine HB.out.mono ?_); rintro e w' ⟨rfl, rfl⟩))
        | (go_at_call 26; refine HC2.out.mono ?_; rintro e w' ⟨rfl, rfl⟩))
      go_ret2
      exact ⟨rfl, rfl⟩

/-- divided: the document's quotients and rests. -/
theorem divided_any (n : Nat) (hn : Okn n) (op : Nat) (h1 : 4 ≤ op) (h2 : op ≤ 7) (a b : Nat) (ha : a < 2 ^ n) (hbn : b < 2 ^ n) (w : World) :
    Calls Try.prog 27 #[.int .i64 n, .int .i64 op, .int .u64 a, .int .u64 b] w fun e w' => e = .returned (.tuple #[.int .u64 ((divR n op a b).1 : Nat), .int .i64 ((divR n op a b).2 : Nat)]) ∧ w = w' := by
  by_cases hb : b = 0
  · subst hb
    exact div_zero n op a w
  · have hop : op = 4 ∨ op = 5 ∨ op = 6 ∨ op = 7 := by omega
    rcases hop with rfl | rfl | rfl | rfl
    · by_cases hov : a = 2 ^ (n - 1) ∧ b = 2 ^ n - 1
      · rw [divR, if_neg hb, if_neg (by decide), if_neg (by decide), if_neg (by decide), if_pos hov]
        obtain ⟨rfl, rfl⟩ := hov
        exact div_over n hn w
      · rw [divR, if_neg hb, if_neg (by decide), if_neg (by decide), if_neg (by decide), if_neg hov]
        exact div_s n hn a b ha hb hbn hov w
    · rw [divR, if_neg hb, if_pos rfl]
      exact div_u n hn a b ha hb w
    · rw [divR, if_neg hb, if_neg (by decide), if_neg (by decide), if_pos rfl]
      exact rem_s n hn a b ha hb hbn w
    · rw [divR, if_neg hb, if_neg (by decide), if_pos rfl]
      exact rem_u n hn a b ha hb w

end Go.Proofs.Yticcmbeikdemmaa
