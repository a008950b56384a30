/-
  Div, Shift, SatMath, RefSmall, RefList, SEf: merged (each text says what it holds where it lies in wip). No condition.
-/
import Derived.Test.YtlhakbkdlgejpaaGreatDoorB01
import Derived.Test.YtlhakbkdlgejpaaGreatDoorRows
import Derived.Lib.UnsafeStr
import Derived.Laws.AppendOwnNone
import Derived.OwnWalk
import Derived.Test.YtlhakbkdlgejpaaGreatDoorB05
set_option linter.unusedSimpArgs false
set_option linter.unusedVariables false
set_option maxRecDepth 100000
namespace Go.Proofs.YtlhakbkdlgejpaaGreatDoor
open Go.RowKit

theorem ret_two {k k' : IntKind} {a b : Int} {c d : Int} (h : a = b) (h' : c = d) : Ending.returned (.tuple #[.int k a, .int k' c]) = .returned (.tuple #[.int k b, .int k' d]) := by rw [h, h']

theorem div_zero (n : Nat) (op : Int) (a : Nat) (w : World) :
    Calls Tryz.prog 174 #[.int .i64 n, .int .i64 op, .int .u64 a, .int .u64 0] w fun e w' => e = .returned (.tuple #[.int .u64 0, .int .i64 41]) ∧ w = w' := by
  go_enter Tryz.func174, Tryz.ntmps174
  go_wp2
  go_ret2
  exact ⟨rfl, rfl⟩

theorem wrap_nat {q : Nat} (h : q < 18446744073709551616) : IntKind.u64.wrap (q : Int) = (q : Int) := by
  rw [IntKind.wrap_u64]; omega

/-- A quotient or a rest without signs, cut at the end. -/
theorem div_u (n : Nat) (hn : Okn n) (a b : Nat) (ha : a < 2 ^ n) (hb : b ≠ 0) (w : World) :
    Calls Tryz.prog 174 #[.int .i64 n, .int .i64 5, .int .u64 a, .int .u64 b] w fun e w' => e = .returned (.tuple #[.int .u64 ((a / b : Nat) : Int), .int .i64 0]) ∧ w = w' := by
  obtain ⟨h1, h2, h3, h4⟩ := pow_lt64 hn
  have hd : a / b ≤ a := Nat.div_le_self _ _
  have HC := hid (cut_any n hn (a / b) (by omega) w)
  rw [Nat.mod_eq_of_lt (by omega)] at HC
  have hne : ((b : Int) == 0) = false := by simp; omega
  have hb0 : 0 < (b : Int) := by omega
  obtain ⟨q, hq⟩ : ∃ q : Nat, q = a / b := ⟨_, rfl⟩
  have hqq : (a : Int) / (b : Int) = (q : Int) := by rw [hq]; simp
  have hqw := wrap_nat (show q < 18446744073709551616 by omega)
  rw [← hq] at HC ⊢
  clear h1 h2 h3 h4 ha hd hq
  go_enter Tryz.func174, Tryz.ntmps174
  go_wp2_with (go_at_call 136; refine HC.out.mono ?_; rintro e w' ⟨rfl, rfl⟩)
  go_ret2
  exact ⟨rfl, rfl⟩

theorem rem_u (n : Nat) (hn : Okn n) (a b : Nat) (ha : a < 2 ^ n) (hb : b ≠ 0) (w : World) :
    Calls Tryz.prog 174 #[.int .i64 n, .int .i64 7, .int .u64 a, .int .u64 b] w fun e w' => e = .returned (.tuple #[.int .u64 ((a % b : Nat) : Int), .int .i64 0]) ∧ w = w' := by
  obtain ⟨h1, h2, h3, h4⟩ := pow_lt64 hn
  have hd : a % b ≤ a := Nat.mod_le _ _
  have HC := hid (cut_any n hn (a % b) (by omega) w)
  rw [Nat.mod_eq_of_lt (show a % b < 2 ^ n by omega)] at HC
  have hne : ((b : Int) == 0) = false := by simp; omega
  have hb0 : 0 < (b : Int) := by omega
  obtain ⟨q, hq⟩ : ∃ q : Nat, q = a % b := ⟨_, rfl⟩
  have hqq : (a : Int) % (b : Int) = (q : Int) := by rw [hq]; simp
  rw [← hq] at HC ⊢
  clear h1 h2 h3 h4 ha hd hq
  go_enter Tryz.func174, Tryz.ntmps174
  go_wp2_with (go_at_call 136; refine HC.out.mono ?_; rintro e w' ⟨rfl, rfl⟩)
  go_ret2
  exact ⟨rfl, rfl⟩

theorem natAbs_pos_of {n b : Nat} (hb : b ≠ 0) (hlt : b < 2 ^ n) : 0 < (sg n b).natAbs := by
  rw [sg_abs hlt]; split <;> omega

theorem size_le {n x : Nat} (hn : Okn n) (hx : x < 2 ^ n) : (sg n x).natAbs ≤ 2 ^ (n - 1) := by
  obtain ⟨h1, h2, h3, h4⟩ := pow_lt64 hn
  rw [sg_abs hx]; split <;> omega

/-- The sign of a cut number, as a test. -/
def neg1 (n x : Nat) : Bool := decide (2 ^ (n - 1) ≤ x)

theorem neg1_iff {n x : Nat} (hx : x < 2 ^ n) : neg1 n x = decide (sg n x < 0) := by
  unfold neg1
  exact decide_eq_decide.2 (sg_neg hx).symm

set_option maxHeartbeats 800000 in
theorem rem_s (n : Nat) (hn : Okn n) (a b : Nat) (ha : a < 2 ^ n) (hb : b ≠ 0) (hbn : b < 2 ^ n) (w : World) :
    Calls Tryz.prog 174 #[.int .i64 n, .int .i64 6, .int .u64 a, .int .u64 b] w fun e w' => e = .returned (.tuple #[.int .u64 ((toN n ((sg n a).tmod (sg n b)) : Nat) : Int), .int .i64 0]) ∧ w = w' := by
  obtain ⟨h1, h2, h3, h4⟩ := pow_lt64 hn
  have hne : ((b : Int) == 0) = false := by simp; omega
  have HA := hid (size_any n hn a ha w)
  have HB := hid (size_any n hn b hbn w)
  have hA := size_le hn ha
  have hB0 := natAbs_pos_of hb hbn
  obtain ⟨A, hAe⟩ : ∃ A : Nat, A = (sg n a).natAbs := ⟨_, rfl⟩
  obtain ⟨B, hBe⟩ : ∃ B : Nat, B = (sg n b).natAbs := ⟨_, rfl⟩
  obtain ⟨q, hq⟩ : ∃ q : Nat, q = A % B := ⟨_, rfl⟩
  have hqA : q ≤ A := by rw [hq]; exact Nat.mod_le _ _
  have hqq : (A : Int) % (B : Int) = (q : Int) := by rw [hq]; simp
  by_cases hs : sg n a < 0
  · have HN := hid (negative_any n hn a (by omega) true (by rw [testBit_top hn ha]; simp [(sg_neg ha).1 hs]) w)
    have hv : toN n ((sg n a).tmod (sg n b)) = (18446744073709551616 - q) % 18446744073709551616 % 2 ^ n := by
      rw [tmod_negs hs, ← hAe, ← hBe, ← hq, toN_neg hn q (by omega)]
    have hw : IntKind.u64.wrap (-(q : Int)) = (((18446744073709551616 - q) % 18446744073709551616 : Nat) : Int) := by
      rw [IntKind.wrap_u64]; omega
    have HC := hid (cut_any n hn ((18446744073709551616 - q) % 18446744073709551616) (by omega) w)
    rw [hv]
    obtain ⟨r, hr⟩ : ∃ r : Nat, r = (18446744073709551616 - q) % 18446744073709551616 := ⟨_, rfl⟩
    rw [← hr] at hw HC ⊢
    rw [← hAe] at HA hA
    rw [← hBe] at HB hB0
    have hb0 : 0 < (B : Int) := by omega
    clear h1 h2 h3 h4 ha hbn hb hA hB0 hAe hBe hq hqA hs hv hr hn
    go_enter Tryz.func174, Tryz.ntmps174
    go_wp2_with (first
      | (go_at_call 202; refine HN.out.mono ?_; rintro e w' ⟨rfl, rfl⟩)
      | (go_at_call 139; ((with_reducible refine HA.out.mono ?_); rintro e w' ⟨rfl, rfl⟩))
      | (go_at_call 139; ((with_reducible refine HB.out.mono ?_); rintro e w' ⟨rfl, rfl⟩))
      | (go_at_call 136; refine HC.out.mono ?_; rintro e w' ⟨rfl, rfl⟩))
    go_ret2
    exact ⟨rfl, rfl⟩
  · have HN := hid (negative_any n hn a (by omega) false (by rw [testBit_top hn ha]; have := (not_congr (sg_neg ha)).1 hs; simp [this]) w)
    have hv : toN n ((sg n a).tmod (sg n b)) = q % 2 ^ n := by
      rw [tmod_pos hs, ← hAe, ← hBe, ← hq, toN_nat]
    have HC := hid (cut_any n hn q (by omega) w)
    rw [hv]
    rw [← hAe] at HA hA
    rw [← hBe] at HB hB0
    have hb0 : 0 < (B : Int) := by omega
    clear h1 h2 h3 h4 ha hbn hb hA hB0 hAe hBe hq hqA hs hv hn
    go_enter Tryz.func174, Tryz.ntmps174
    go_wp2_with (first
      | (go_at_call 202; refine HN.out.mono ?_; rintro e w' ⟨rfl, rfl⟩)
      | (go_at_call 139; ((with_reducible refine HA.out.mono ?_); rintro e w' ⟨rfl, rfl⟩))
      | (go_at_call 139; ((with_reducible refine HB.out.mono ?_); rintro e w' ⟨rfl, rfl⟩))
      | (go_at_call 136; refine HC.out.mono ?_; rintro e w' ⟨rfl, rfl⟩))
    go_ret2
    exact ⟨rfl, rfl⟩

theorem div_over (n : Nat) (hn : Okn n) (w : World) :
    Calls Tryz.prog 174 #[.int .i64 n, .int .i64 4, .int .u64 ((2 ^ (n - 1) : Nat) : Int), .int .u64 ((2 ^ n - 1 : Nat) : Int)] w fun e w' => e = .returned (.tuple #[.int .u64 0, .int .i64 42]) ∧ w = w' := by
  obtain ⟨h1, h2, h3, h4⟩ := pow_lt64 hn
  have HO := hid (ones_any n hn w)
  have HS := hid (sign_any n hn w)
  obtain ⟨S, hS⟩ : ∃ S : Nat, S = 2 ^ (n - 1) := ⟨_, rfl⟩
  obtain ⟨O, hO⟩ : ∃ O : Nat, O = 2 ^ n - 1 := ⟨_, rfl⟩
  have hne : ((O : Int) == 0) = false := by simp; omega
  rw [← hS, ← hO]
  rw [← hS] at HS
  rw [← hO] at HO
  clear h1 h2 h3 h4 hS hO hn
  go_enter Tryz.func174, Tryz.ntmps174
  go_wp2_with (first
    | (go_at_call 173; refine HS.out.mono ?_; rintro e w' ⟨rfl, rfl⟩)
    | (go_at_call 201; refine HO.out.mono ?_; rintro e w' ⟨rfl, rfl⟩))
  go_ret2
  exact ⟨rfl, rfl⟩

set_option maxHeartbeats 1600000 in
theorem div_s (n : Nat) (hn : Okn n) (a b : Nat) (ha : a < 2 ^ n) (hb : b ≠ 0) (hbn : b < 2 ^ n) (hno : ¬ (a = 2 ^ (n - 1) ∧ b = 2 ^ n - 1)) (w : World) :
    Calls Tryz.prog 174 #[.int .i64 n, .int .i64 4, .int .u64 a, .int .u64 b] w fun e w' => e = .returned (.tuple #[.int .u64 ((toN n ((sg n a).tdiv (sg n b)) : Nat) : Int), .int .i64 0]) ∧ w = w' := by
  obtain ⟨h1, h2, h3, h4⟩ := pow_lt64 hn
  have hne : ((b : Int) == 0) = false := by simp; omega
  have HO := hid (ones_any n hn w)
  have HS := hid (sign_any n hn w)
  have HA := hid (size_any n hn a ha w)
  have HB := hid (size_any n hn b hbn w)
  have hA := size_le hn ha
  have hB0 := natAbs_pos_of hb hbn
  obtain ⟨S, hS⟩ : ∃ S : Nat, S = 2 ^ (n - 1) := ⟨_, rfl⟩
  obtain ⟨O, hO⟩ : ∃ O : Nat, O = 2 ^ n - 1 := ⟨_, rfl⟩
  obtain ⟨A, hAe⟩ : ∃ A : Nat, A = (sg n a).natAbs := ⟨_, rfl⟩
  obtain ⟨B, hBe⟩ : ∃ B : Nat, B = (sg n b).natAbs := ⟨_, rfl⟩
  obtain ⟨q, hq⟩ : ∃ q : Nat, q = A / B := ⟨_, rfl⟩
  have hqA : q ≤ A := by rw [hq]; exact Nat.div_le_self _ _
  have hqq : (A : Int) / (B : Int) = (q : Int) := by rw [hq]; simp
  have hqw := wrap_nat (show q < 18446744073709551616 by omega)
  have hw : IntKind.u64.wrap (-(q : Int)) = (((18446744073709551616 - q) % 18446744073709551616 : Nat) : Int) := by
    rw [IntKind.wrap_u64]; omega
  have HC1 := hid (cut_any n hn ((18446744073709551616 - q) % 18446744073709551616) (by omega) w)
  have HC2 := hid (cut_any n hn q (by omega) w)
  have hv1 : ¬ (sg n a < 0 ↔ sg n b < 0) → toN n ((sg n a).tdiv (sg n b)) = (18446744073709551616 - q) % 18446744073709551616 % 2 ^ n := fun hs => by
    rw [tdiv_other hs, ← hAe, ← hBe, ← hq, toN_neg hn q (by omega)]
  have hv2 : (sg n a < 0 ↔ sg n b < 0) → toN n ((sg n a).tdiv (sg n b)) = q % 2 ^ n := fun hs => by
    rw [tdiv_same hs, ← hAe, ← hBe, ← hq, toN_nat]
  obtain ⟨r, hr⟩ : ∃ r : Nat, r = (18446744073709551616 - q) % 18446744073709551616 := ⟨_, rfl⟩
  have hNa := negative_any n hn a (by omega) _ (testBit_top hn ha) w
  have hNb := negative_any n hn b (by omega) _ (testBit_top hn hbn) w
  rw [sg_neg ha, sg_neg hbn] at hv1 hv2
  rw [← hS] at HS hNa hNb hv1 hv2 hno
  rw [← hO] at HO hno
  rw [← hr] at HC1 hw hv1
  rw [← hAe] at HA
  rw [← hBe] at HB hB0
  obtain ⟨V, hV⟩ : ∃ V : Nat, V = toN n ((sg n a).tdiv (sg n b)) := ⟨_, rfl⟩
  rw [← hV] at hv1 hv2 ⊢
  have hb0 : 0 < (B : Int) := by omega
  have HV1 := hid hv1
  have HV2 := hid hv2
  clear hv1 hv2 h1 h2 h3 h4 ha hbn hb hA hB0 hAe hBe hq hqA hr hn hS hO hV
  have hor : ((a : Int) == (S : Int)) = true ∧ ((b : Int) == (O : Int)) = false ∨ ((a : Int) == (S : Int)) = false := by
    by_cases hoa : a = S
    · exact .inl ⟨by simp [hoa], by have : ¬ b = O := fun h => hno ⟨hoa, h⟩
                                    simp; omega⟩
    · exact .inr (by simp; omega)
  clear hno
  by_cases hca : S ≤ a <;> by_cases hcb : S ≤ b
  all_goals
    simp only [hca, hcb, decide_true, decide_false] at hNa hNb
    have HNa := hid hNa
    have HNb := hid hNb
    clear hNa hNb
  · rw [HV2.out (by simp [hca, hcb])]
    clear HV1 HV2 hca hcb
    rcases hor with ⟨ea, eb⟩ | ea
    all_goals
      go_enter Tryz.func174, Tryz.ntmps174
      go_wp2_with (first
        | (go_at_call 173; refine HS.out.mono ?_; rintro e w' ⟨rfl, rfl⟩)
        | (go_at_call 201; refine HO.out.mono ?_; rintro e w' ⟨rfl, rfl⟩)
        | (go_at_call 202; ((with_reducible refine HNa.out.mono ?_); rintro e w' ⟨rfl, rfl⟩))
        | (go_at_call 202; ((with_reducible refine HNb.out.mono ?_); rintro e w' ⟨rfl, rfl⟩))
        | (go_at_call 139; ((with_reducible refine HA.out.mono ?_); rintro e w' ⟨rfl, rfl⟩))
        | (go_at_call 139; ((with_reducible refine HB.out.mono ?_); rintro e w' ⟨rfl, rfl⟩))
        | (go_at_call 136; refine HC2.out.mono ?_; rintro e w' ⟨rfl, rfl⟩))
      go_ret2
      exact ⟨rfl, rfl⟩
  · rw [HV1.out (by simp [hca, hcb])]
    clear HV1 HV2 hca hcb
    rcases hor with ⟨ea, eb⟩ | ea
    all_goals
      go_enter Tryz.func174, Tryz.ntmps174
      go_wp2_with (first
        | (go_at_call 173; refine HS.out.mono ?_; rintro e w' ⟨rfl, rfl⟩)
        | (go_at_call 201; refine HO.out.mono ?_; rintro e w' ⟨rfl, rfl⟩)
        | (go_at_call 202; ((with_reducible refine HNa.out.mono ?_); rintro e w' ⟨rfl, rfl⟩))
        | (go_at_call 202; ((with_reducible refine HNb.out.mono ?_); rintro e w' ⟨rfl, rfl⟩))
        | (go_at_call 139; ((with_reducible refine HA.out.mono ?_); rintro e w' ⟨rfl, rfl⟩))
        | (go_at_call 139; ((with_reducible refine HB.out.mono ?_); rintro e w' ⟨rfl, rfl⟩))
        | (go_at_call 136; refine HC1.out.mono ?_; rintro e w' ⟨rfl, rfl⟩))
      go_ret2
      exact ⟨rfl, rfl⟩
  · rw [HV1.out (by simp [hca, hcb])]
    clear HV1 HV2 hca hcb
    rcases hor with ⟨ea, eb⟩ | ea
    all_goals
      go_enter Tryz.func174, Tryz.ntmps174
      go_wp2_with (first
        | (go_at_call 173; refine HS.out.mono ?_; rintro e w' ⟨rfl, rfl⟩)
        | (go_at_call 201; refine HO.out.mono ?_; rintro e w' ⟨rfl, rfl⟩)
        | (go_at_call 202; ((with_reducible refine HNa.out.mono ?_); rintro e w' ⟨rfl, rfl⟩))
        | (go_at_call 202; ((with_reducible refine HNb.out.mono ?_); rintro e w' ⟨rfl, rfl⟩))
        | (go_at_call 139; ((with_reducible refine HA.out.mono ?_); rintro e w' ⟨rfl, rfl⟩))
        | (go_at_call 139; ((with_reducible refine HB.out.mono ?_); rintro e w' ⟨rfl, rfl⟩))
        | (go_at_call 136; refine HC1.out.mono ?_; rintro e w' ⟨rfl, rfl⟩))
      go_ret2
      exact ⟨rfl, rfl⟩
  · rw [HV2.out (by simp [hca, hcb])]
    clear HV1 HV2 hca hcb
    rcases hor with ⟨ea, eb⟩ | ea
    all_goals
      go_enter Tryz.func174, Tryz.ntmps174
      go_wp2_with (first
        | (go_at_call 173; refine HS.out.mono ?_; rintro e w' ⟨rfl, rfl⟩)
        | (go_at_call 201; refine HO.out.mono ?_; rintro e w' ⟨rfl, rfl⟩)
        | (go_at_call 202; ((with_reducible refine HNa.out.mono ?_); rintro e w' ⟨rfl, rfl⟩))
        | (go_at_call 202; ((with_reducible refine HNb.out.mono ?_); rintro e w' ⟨rfl, rfl⟩))
        | (go_at_call 139; ((with_reducible refine HA.out.mono ?_); rintro e w' ⟨rfl, rfl⟩))
        | (go_at_call 139; ((with_reducible refine HB.out.mono ?_); rintro e w' ⟨rfl, rfl⟩))
        | (go_at_call 136; refine HC2.out.mono ?_; rintro e w' ⟨rfl, rfl⟩))
      go_ret2
      exact ⟨rfl, rfl⟩

/-- divided: the document's quotients and rests. -/
theorem divided_any (n : Nat) (hn : Okn n) (op : Nat) (h1 : 4 ≤ op) (h2 : op ≤ 7) (a b : Nat) (ha : a < 2 ^ n) (hbn : b < 2 ^ n) (w : World) :
    Calls Tryz.prog 174 #[.int .i64 n, .int .i64 op, .int .u64 a, .int .u64 b] w fun e w' => e = .returned (.tuple #[.int .u64 ((divR n op a b).1 : Nat), .int .i64 ((divR n op a b).2 : Nat)]) ∧ w = w' := by
  by_cases hb : b = 0
  · subst hb
    exact div_zero n op a w
  · have hop : op = 4 ∨ op = 5 ∨ op = 6 ∨ op = 7 := by omega
    rcases hop with rfl | rfl | rfl | rfl
    · by_cases hov : a = 2 ^ (n - 1) ∧ b = 2 ^ n - 1
      · rw [divR, if_neg hb, if_neg (by decide), if_neg (by decide), if_neg (by decide), if_pos hov]
        obtain ⟨rfl, rfl⟩ := hov
        exact div_over n hn w
      · rw [divR, if_neg hb, if_neg (by decide), if_neg (by decide), if_neg (by decide), if_neg hov]
        exact div_s n hn a b ha hb hbn hov w
    · rw [divR, if_neg hb, if_pos rfl]
      exact div_u n hn a b ha hb w
    · rw [divR, if_neg hb, if_neg (by decide), if_neg (by decide), if_pos rfl]
      exact rem_s n hn a b ha hb hbn w
    · rw [divR, if_neg hb, if_neg (by decide), if_pos rfl]
      exact rem_u n hn a b ha hb w

end Go.Proofs.YtlhakbkdlgejpaaGreatDoor
namespace Go.Proofs.YtlhakbkdlgejpaaGreatDoor
open Go.RowKit

/-- A number that is s when it is cut. -/
def Cuts (n s : Nat) (w : World) (e : Ending) (w' : World) : Prop := ∃ v : Nat, e = .returned (.int .u64 (v : Int)) ∧ v < 18446744073709551616 ∧ v % 2 ^ n = s ∧ w = w'

theorem cuts_nat {n : Nat} {w : World} {s v : Nat} {z : Int} (hz : z = (v : Int)) (hv : v < 18446744073709551616) (h : v % 2 ^ n = s) : Cuts n s w (.returned (.int .u64 z)) w :=
  ⟨v, by rw [hz], hv, h, rfl⟩

theorem mod_mod64 {n : Nat} (hn : Okn n) (x : Nat) : x % 18446744073709551616 % 2 ^ n = x % 2 ^ n := by
  apply Nat.mod_mod_of_dvd
  rcases hn with rfl | rfl | rfl | rfl <;> decide

theorem wrap_toN {n : Nat} (hn : Okn n) (z : Int) : (z % 18446744073709551616).toNat % 2 ^ n = toN n z := by
  unfold toN
  rcases hn with rfl | rfl | rfl | rfl <;> simp <;> omega

theorem cuts_wrap {n : Nat} (hn : Okn n) {w : World} {s : Nat} {z : Int} (h : toN n z = s) : Cuts n s w (.returned (.int .u64 (IntKind.u64.wrap z))) w := by
  refine cuts_nat (v := (z % 18446744073709551616).toNat) (by rw [IntKind.wrap_u64]; omega) (by omega) ?_
  rw [wrap_toN hn, h]

theorem shl_u (n : Nat) (hn : Okn n) (a b : Nat) (w : World) :
    Calls Tryz.prog 175 #[.int .i64 n, .int .i64 11, .int .u64 a, .int .u64 b] w (Cuts n (shiftR n 11 a (b % n)) w) := by
  have hn8 := hn.le
  obtain ⟨k, hk⟩ : ∃ k : Nat, k = b % n := ⟨_, rfl⟩
  have hkn : k < n := by rw [hk]; exact Nat.mod_lt _ (by omega)
  have hkk : (b : Int) % (n : Int) = (k : Int) := by rw [hk]; simp
  have hnw := wrap_nat (show n < 18446744073709551616 by omega)
  have hn0 : 0 < (n : Int) := by omega
  have hk64 : k ≤ 63 := by omega
  rw [← hk]
  have HN := hid hn
  clear hk hn
  go_enter Tryz.func175, Tryz.ntmps175
  go_wp2
  go_ret
  exact cuts_wrap HN.out (by
    rw [shiftR, if_pos rfl, ← toN_nat]
    simp)

theorem sar_u (n : Nat) (hn : Okn n) (a b : Nat) (ha : a < 2 ^ n) (w : World) :
    Calls Tryz.prog 175 #[.int .i64 n, .int .i64 12, .int .u64 a, .int .u64 b] w (Cuts n (shiftR n 12 a (b % n)) w) := by
  obtain ⟨h1, h2, h3, h4⟩ := pow_lt64 hn
  have hn8 := hn.le
  obtain ⟨k, hk⟩ : ∃ k : Nat, k = b % n := ⟨_, rfl⟩
  have hkn : k < n := by rw [hk]; exact Nat.mod_lt _ (by omega)
  have hkk : (b : Int) % (n : Int) = (k : Int) := by rw [hk]; simp
  have hnw := wrap_nat (show n < 18446744073709551616 by omega)
  have hn0 : 0 < (n : Int) := by omega
  have hk64 : k ≤ 63 := by omega
  have HG := hid (Signed_ok n hn a (by omega) w)
  rw [← hk]
  rw [Nat.mod_eq_of_lt ha] at HG
  have HN := hid hn
  clear h1 h2 h3 h4 hk hn ha
  go_enter Tryz.func175, Tryz.ntmps175
  go_wp2_with (go_at_call 121; refine HG.out.mono ?_; rintro e w' ⟨rfl, rfl⟩)
  go_ret
  exact cuts_wrap HN.out (by
    rw [shiftR, if_neg (by decide), if_pos rfl]
    simp)

theorem div_pow_cast (a k : Nat) : (a : Int) / 2 ^ k = ((a / 2 ^ k : Nat) : Int) := by simp

theorem shr_u (n : Nat) (hn : Okn n) (a b : Nat) (ha : a < 2 ^ n) (w : World) :
    Calls Tryz.prog 175 #[.int .i64 n, .int .i64 13, .int .u64 a, .int .u64 b] w (Cuts n (shiftR n 13 a (b % n)) w) := by
  obtain ⟨h1, h2, h3, h4⟩ := pow_lt64 hn
  have hn8 := hn.le
  obtain ⟨k, hk⟩ : ∃ k : Nat, k = b % n := ⟨_, rfl⟩
  have hkn : k < n := by rw [hk]; exact Nat.mod_lt _ (by omega)
  have hkk : (b : Int) % (n : Int) = (k : Int) := by rw [hk]; simp
  have hnw := wrap_nat (show n < 18446744073709551616 by omega)
  have hn0 : 0 < (n : Int) := by omega
  have hk64 : k ≤ 63 := by omega
  have hd : a / 2 ^ k ≤ a := Nat.div_le_self _ _
  rw [← hk]
  have HD := hid (show a / 2 ^ k < 18446744073709551616 ∧ a / 2 ^ k < 2 ^ n from ⟨by omega, by omega⟩)
  clear h1 h2 h3 h4 hk hn ha hd
  go_enter Tryz.func175, Tryz.ntmps175
  go_wp2
  go_ret
  exact cuts_nat (div_pow_cast a k) HD.out.1 (by
    rw [shiftR, if_neg (by decide), if_neg (by decide), if_pos rfl, Nat.mod_eq_of_lt HD.out.2])

theorem or_wraps {n : Nat} (hn : Okn n) (a m j : Nat) (ha : a < 18446744073709551616) : ∃ v : Nat, bits .or .u64 (IntKind.u64.wrap ((a : Int) * 2 ^ m)) ((a : Int) / 2 ^ j) = (v : Int) ∧ v < 18446744073709551616 ∧ v % 2 ^ n = ((a * 2 ^ m) ||| (a / 2 ^ j)) % 2 ^ n := by
  have e1 : IntKind.u64.wrap ((a : Int) * 2 ^ m) = ((a * 2 ^ m % 18446744073709551616 : Nat) : Int) := by
    rw [IntKind.wrap_u64]; simp
  have hd : a / 2 ^ j ≤ a := Nat.div_le_self _ _
  refine ⟨(a * 2 ^ m % 18446744073709551616) ||| (a / 2 ^ j), ?_, ?_, ?_⟩
  · rw [e1, div_pow_cast, bits_or_u64_nat _ _ (Nat.mod_lt _ (by decide)) (by omega)]
  · exact Nat.or_lt_two_pow (n := 64) (Nat.mod_lt _ (by decide)) (by omega)
  · rw [Nat.or_mod_two_pow, mod_mod64 hn, ← Nat.or_mod_two_pow]

theorem rotl_u (n : Nat) (hn : Okn n) (a b : Nat) (ha : a < 2 ^ n) (w : World) :
    Calls Tryz.prog 175 #[.int .i64 n, .int .i64 14, .int .u64 a, .int .u64 b] w (Cuts n (shiftR n 14 a (b % n)) w) := by
  obtain ⟨h1, h2, h3, h4⟩ := pow_lt64 hn
  have hn8 := hn.le
  obtain ⟨k, hk⟩ : ∃ k : Nat, k = b % n := ⟨_, rfl⟩
  have hkn : k < n := by rw [hk]; exact Nat.mod_lt _ (by omega)
  have hkk : (b : Int) % (n : Int) = (k : Int) := by rw [hk]; simp
  have hnw := wrap_nat (show n < 18446744073709551616 by omega)
  have hn0 : 0 < (n : Int) := by omega
  have hk64 : k ≤ 63 := by omega
  rw [← hk]
  have HV := hid (or_wraps hn a k (n - k) (by omega))
  clear h1 h2 h3 h4 hk hn ha
  go_enter Tryz.func175, Tryz.ntmps175
  go_wp2
  go_ret
  obtain ⟨v, e, hv, hc⟩ := HV.out
  exact cuts_nat e hv (by
    rw [shiftR, if_neg (by decide), if_neg (by decide), if_neg (by decide), if_pos rfl, hc])

theorem rotr_u (n : Nat) (hn : Okn n) (a b : Nat) (ha : a < 2 ^ n) (w : World) :
    Calls Tryz.prog 175 #[.int .i64 n, .int .i64 15, .int .u64 a, .int .u64 b] w (Cuts n (shiftR n 15 a (b % n)) w) := by
  obtain ⟨h1, h2, h3, h4⟩ := pow_lt64 hn
  have hn8 := hn.le
  obtain ⟨k, hk⟩ : ∃ k : Nat, k = b % n := ⟨_, rfl⟩
  have hkn : k < n := by rw [hk]; exact Nat.mod_lt _ (by omega)
  have hkk : (b : Int) % (n : Int) = (k : Int) := by rw [hk]; simp
  have hnw := wrap_nat (show n < 18446744073709551616 by omega)
  have hn0 : 0 < (n : Int) := by omega
  have hk64 : k ≤ 63 := by omega
  rw [← hk]
  have HV := hid (or_wraps hn a (n - k) (n - (n - k)) (by omega))
  have HK := hid (show n - (n - k) = k by omega)
  clear h1 h2 h3 h4 hk hn ha
  go_enter Tryz.func175, Tryz.ntmps175
  go_wp2
  go_ret
  obtain ⟨v, e, hv, hc⟩ := HV.out
  exact cuts_nat e hv (by
    rw [shiftR, if_neg (by decide), if_neg (by decide), if_neg (by decide), if_neg (by decide), hc, HK.out])

/-- shifted: the document's number, when it is cut. -/
theorem shifted_any (n : Nat) (hn : Okn n) (op : Nat) (h1 : 11 ≤ op) (h2 : op ≤ 15) (a b : Nat) (ha : a < 2 ^ n) (w : World) :
    Calls Tryz.prog 175 #[.int .i64 n, .int .i64 op, .int .u64 a, .int .u64 b] w (Cuts n (shiftR n op a (b % n)) w) := by
  have hop : op = 11 ∨ op = 12 ∨ op = 13 ∨ op = 14 ∨ op = 15 := by omega
  rcases hop with rfl | rfl | rfl | rfl | rfl
  · exact shl_u n hn a b w
  · exact sar_u n hn a b ha w
  · exact shr_u n hn a b ha w
  · exact rotl_u n hn a b ha w
  · exact rotr_u n hn a b ha w

end Go.Proofs.YtlhakbkdlgejpaaGreatDoor
namespace Go.Proofs.YtlhakbkdlgejpaaGreatDoor
open Go

theorem bit_of_mod {n : Nat} (hn : Okn n) (x : Nat) : x.testBit (n - 1) = decide (2 ^ (n - 1) ≤ x % 2 ^ n) := by
  rw [← testBit_top hn (Nat.mod_lt _ (Nat.two_pow_pos n)), Nat.testBit_mod_two_pow]
  have := hn.le
  simp
  omega

/-- Where a sum with a sign is too great or too small. -/
theorem sat_bits {n a b s : Nat} (hn : Okn n) : ((a ^^^ s) &&& (b ^^^ s)).testBit (n - 1) = decide (¬ (2 ^ (n - 1) ≤ a % 2 ^ n ↔ 2 ^ (n - 1) ≤ s % 2 ^ n) ∧ ¬ (2 ^ (n - 1) ≤ b % 2 ^ n ↔ 2 ^ (n - 1) ≤ s % 2 ^ n)) := by
  rw [Nat.testBit_and, Nat.testBit_xor, Nat.testBit_xor, bit_of_mod hn, bit_of_mod hn, bit_of_mod hn]
  by_cases h1 : 2 ^ (n - 1) ≤ a % 2 ^ n <;> by_cases h2 : 2 ^ (n - 1) ≤ b % 2 ^ n <;> by_cases h3 : 2 ^ (n - 1) ≤ s % 2 ^ n <;> simp [h1, h2, h3]

theorem add_in {n a b : Nat} (hn : Okn n) (ha : a < 2 ^ n) (hb : b < 2 ^ n) (h : ¬ (¬ (2 ^ (n - 1) ≤ a % 2 ^ n ↔ 2 ^ (n - 1) ≤ (a + b) % 18446744073709551616 % 2 ^ n) ∧ ¬ (2 ^ (n - 1) ≤ b % 2 ^ n ↔ 2 ^ (n - 1) ≤ (a + b) % 18446744073709551616 % 2 ^ n))) :
    (a + b) % 18446744073709551616 % 2 ^ n = toN n (clampS n (sg n a + sg n b)) := by
  unfold toN clampS sg
  rcases hn with rfl | rfl | rfl | rfl <;> simp at ha hb h ⊢ <;> repeat' split <;> omega

theorem add_out {n a b : Nat} (hn : Okn n) (ha : a < 2 ^ n) (hb : b < 2 ^ n) (h : ¬ (2 ^ (n - 1) ≤ a % 2 ^ n ↔ 2 ^ (n - 1) ≤ (a + b) % 18446744073709551616 % 2 ^ n) ∧ ¬ (2 ^ (n - 1) ≤ b % 2 ^ n ↔ 2 ^ (n - 1) ≤ (a + b) % 18446744073709551616 % 2 ^ n)) :
    (if 2 ^ (n - 1) ≤ a then 2 ^ (n - 1) else 2 ^ (n - 1) - 1) = toN n (clampS n (sg n a + sg n b)) := by
  unfold toN clampS sg
  rcases hn with rfl | rfl | rfl | rfl <;> simp at ha hb h ⊢ <;> repeat' split <;> omega

theorem sub_in {n a b c : Nat} (hn : Okn n) (ha : a < 2 ^ n) (hb : b < 2 ^ n) (hc : c = 18446744073709551615 - b) (h : ¬ (¬ (2 ^ (n - 1) ≤ a % 2 ^ n ↔ 2 ^ (n - 1) ≤ (a + c + 1) % 18446744073709551616 % 2 ^ n) ∧ ¬ (2 ^ (n - 1) ≤ c % 2 ^ n ↔ 2 ^ (n - 1) ≤ (a + c + 1) % 18446744073709551616 % 2 ^ n))) :
    (a + c + 1) % 18446744073709551616 % 2 ^ n = toN n (clampS n (sg n a - sg n b)) := by
  unfold toN clampS sg
  rcases hn with rfl | rfl | rfl | rfl <;> simp at ha hb h ⊢ <;> repeat' split <;> omega

theorem sub_out {n a b c : Nat} (hn : Okn n) (ha : a < 2 ^ n) (hb : b < 2 ^ n) (hc : c = 18446744073709551615 - b) (h : ¬ (2 ^ (n - 1) ≤ a % 2 ^ n ↔ 2 ^ (n - 1) ≤ (a + c + 1) % 18446744073709551616 % 2 ^ n) ∧ ¬ (2 ^ (n - 1) ≤ c % 2 ^ n ↔ 2 ^ (n - 1) ≤ (a + c + 1) % 18446744073709551616 % 2 ^ n)) :
    (if 2 ^ (n - 1) ≤ a then 2 ^ (n - 1) else 2 ^ (n - 1) - 1) = toN n (clampS n (sg n a - sg n b)) := by
  unfold toN clampS sg
  rcases hn with rfl | rfl | rfl | rfl <;> simp at ha hb h ⊢ <;> repeat' split <;> omega

theorem xor_max (b : Nat) (hb : b < 18446744073709551616) : bits .xor .u64 IntKind.u64.max (b : Int) = ((18446744073709551615 - b : Nat) : Int) := by
  have e : IntKind.u64.max = ((18446744073709551615 : Nat) : Int) := by decide
  rw [e, bits_xor_u64_nat _ _ (by decide) hb]
  congr 1
  apply Nat.eq_of_testBit_eq
  intro i
  have h : 18446744073709551615 - b = 2 ^ 64 - (b + 1) := by omega
  rw [h, Nat.testBit_two_pow_sub_succ (by omega), Nat.testBit_xor, show (18446744073709551615 : Nat) = 2 ^ 64 - 1 from rfl, Nat.testBit_two_pow_sub_one]
  by_cases hi : i < 64
  · simp [hi]
  · have : b.testBit i = false := Nat.testBit_lt_two_pow (Nat.lt_of_lt_of_le hb (Nat.pow_le_pow_right (n := 2) (i := 64) (by decide) (by omega)))
    simp [hi, this]

/-- A cut number with its sign bit turned over. -/
def turned (n a : Nat) : Nat := if 2 ^ (n - 1) ≤ a then a - 2 ^ (n - 1) else a + 2 ^ (n - 1)

theorem xor_top {n a : Nat} (hn : Okn n) (ha : a < 2 ^ n) : a ^^^ 2 ^ (n - 1) = turned n a := by
  obtain ⟨h1, h2, h3, h4⟩ := pow_lt64 hn
  unfold turned
  split
  · rename_i h
    have e : a = 2 ^ (n - 1) ||| (a - 2 ^ (n - 1)) := by
      have := Nat.two_pow_add_eq_or_of_lt (i := n - 1) (b := a - 2 ^ (n - 1)) (by omega) 1
      rw [Nat.mul_one] at this
      rw [← this]; omega
    apply Nat.eq_of_testBit_eq
    intro i
    rw [Nat.testBit_xor, Nat.testBit_two_pow]
    conv => lhs; rw [e]
    rw [Nat.testBit_or, Nat.testBit_two_pow]
    by_cases hi : n - 1 = i
    · subst hi
      have : (a - 2 ^ (n - 1)).testBit (n - 1) = false := Nat.testBit_lt_two_pow (by omega)
      simp [this]
    · simp [hi]
  · rename_i h
    have e : a + 2 ^ (n - 1) = 2 ^ (n - 1) ||| a := by
      have := Nat.two_pow_add_eq_or_of_lt (i := n - 1) (b := a) (by omega) 1
      rw [Nat.mul_one] at this
      rw [← this]; omega
    rw [e]
    apply Nat.eq_of_testBit_eq
    intro i
    rw [Nat.testBit_xor, Nat.testBit_two_pow, Nat.testBit_or, Nat.testBit_two_pow]
    by_cases hi : n - 1 = i
    · subst hi
      have : a.testBit (n - 1) = false := Nat.testBit_lt_two_pow (by omega)
      simp [this]
    · simp [hi]

theorem turned_lt {n a : Nat} (hn : Okn n) (ha : a < 2 ^ n) : turned n a < 2 ^ n := by
  obtain ⟨h1, h2, h3, h4⟩ := pow_lt64 hn
  unfold turned; split <;> omega

theorem turned_turned {n a : Nat} (hn : Okn n) (ha : a < 2 ^ n) : turned n (turned n a) = a := by
  obtain ⟨h1, h2, h3, h4⟩ := pow_lt64 hn
  unfold turned; split <;> split <;> omega

theorem turned_sg {n a : Nat} (hn : Okn n) : ((turned n a : Nat) : Int) = sg n a + (2 ^ (n - 1) : Nat) := by
  obtain ⟨h1, h2, h3, h4⟩ := pow_lt64 hn
  unfold turned sg; split <;> omega

theorem xor_turned {n a : Nat} (hn : Okn n) (ha : a < 2 ^ n) : bits .xor .u64 (a : Int) ((2 ^ (n - 1) : Nat) : Int) = ((turned n a : Nat) : Int) := by
  obtain ⟨h1, h2, h3, h4⟩ := pow_lt64 hn
  rw [bits_xor_u64_nat _ _ (by omega) h1, xor_top hn ha]

theorem xor_zero (a : Nat) (ha : a < 18446744073709551616) : bits .xor .u64 (a : Int) 0 = (a : Int) := by
  have := bits_xor_u64_nat a 0 ha (by decide)
  rw [Nat.xor_zero] at this
  exact this

theorem xor_and_or : ∀ (k a b : Nat), a < 2 ^ k → b < 2 ^ k → (a ||| b) = (a &&& b) + (a ^^^ b) ∧ a + b = 2 * (a &&& b) + (a ^^^ b)
  | 0, a, b, ha, hb => by
    have h1 : a = 0 := by simpa using ha
    have h2 : b = 0 := by simpa using hb
    subst h1; subst h2; decide
  | k + 1, a, b, ha, hb => by
    have ih := xor_and_or k (a / 2) (b / 2) (by rw [Nat.pow_succ] at ha; omega) (by rw [Nat.pow_succ] at hb; omega)
    have e1 := @Nat.or_div_two_pow a b 1
    have e2 := @Nat.and_div_two_pow a b 1
    have e3 := @Nat.xor_div_two_pow a b 1
    have f1 := @Nat.or_mod_two_pow a b 1
    have f2 := @Nat.and_mod_two_pow a b 1
    have f3 := @Nat.xor_mod_two_pow a b 1
    simp only [Nat.pow_one] at e1 e2 e3 f1 f2 f3
    rw [← e1, ← e2, ← e3] at ih
    have hA : a % 2 = 0 ∨ a % 2 = 1 := by omega
    have hB : b % 2 = 0 ∨ b % 2 = 1 := by omega
    rcases hA with hA | hA <;> rcases hB with hB | hB <;> rw [hA, hB] at f1 f2 f3
    · have g1 : (a ||| b) % 2 = 0 := f1
      have g2 : (a &&& b) % 2 = 0 := f2
      have g3 : (a ^^^ b) % 2 = 0 := f3
      omega
    · have g1 : (a ||| b) % 2 = 1 := f1
      have g2 : (a &&& b) % 2 = 0 := f2
      have g3 : (a ^^^ b) % 2 = 1 := f3
      omega
    · have g1 : (a ||| b) % 2 = 1 := f1
      have g2 : (a &&& b) % 2 = 0 := f2
      have g3 : (a ^^^ b) % 2 = 1 := f3
      omega
    · have g1 : (a ||| b) % 2 = 1 := f1
      have g2 : (a &&& b) % 2 = 1 := f2
      have g3 : (a ^^^ b) % 2 = 0 := f3
      omega

end Go.Proofs.YtlhakbkdlgejpaaGreatDoor
namespace Go.Proofs.YtlhakbkdlgejpaaGreatDoor
open Go.RowKit

theorem Right_yes (n : Nat) (hn : Okn n) (w : World) : Calls Tryz.prog 196 #[.int .i64 n] w fun e w' => e = .returned (.bool true) ∧ w = w' := by
  rcases hn with rfl | rfl | rfl | rfl
  · show Calls Tryz.prog 196 #[.int .i64 8] w _
    go_enter Tryz.func196, Tryz.ntmps196
    go_wp2
    go_ret
    exact ⟨rfl, rfl⟩
  · show Calls Tryz.prog 196 #[.int .i64 16] w _
    go_enter Tryz.func196, Tryz.ntmps196
    go_wp2
    go_ret
    exact ⟨rfl, rfl⟩
  · show Calls Tryz.prog 196 #[.int .i64 32] w _
    go_enter Tryz.func196, Tryz.ntmps196
    go_wp2
    go_ret
    exact ⟨rfl, rfl⟩
  · show Calls Tryz.prog 196 #[.int .i64 64] w _
    go_enter Tryz.func196, Tryz.ntmps196
    go_wp2
    go_ret
    exact ⟨rfl, rfl⟩

theorem Right_no (b : Int) (hb : Bad b) (w : World) : Calls Tryz.prog 196 #[.int .i64 b] w fun e w' => e = .returned (.bool false) ∧ w = w' := by
  obtain ⟨h1, h2, h3, h4⟩ := hb
  have e1 : (b == 8) = false := by simpa using h1
  have e2 : (b == 16) = false := by simpa using h2
  have e3 : (b == 32) = false := by simpa using h3
  have e4 : (b == 64) = false := by simpa using h4
  clear h1 h2 h3 h4
  go_enter Tryz.func196, Tryz.ntmps196
  go_wp2
  go_ret
  exact ⟨rfl, rfl⟩

theorem Cut_small (n : Nat) (hn : n < 64) (a : Nat) (w : World) :
    Calls Tryz.prog 81 #[.int .i64 n, .int .u64 a] w fun e w' => e = .returned (.int .u64 ((a % 2 ^ n : Nat) : Int)) ∧ w = w' := by
  have hne : ((n : Int) == 64) = false := by simp; omega
  obtain ⟨r, hrr⟩ : ∃ r : Nat, r = a % 2 ^ n := ⟨_, rfl⟩
  rw [← hrr]
  have HR := hid hrr
  clear hrr
  go_enter Tryz.func81, Tryz.ntmps81
  go_wp2
  go_loop [5, 6] (fun vm vi => ∃ k : Nat, k ≤ n ∧ vi = .int .i64 k ∧ vm = .int .u64 ((2 ^ k : Nat) : Int)) (fun _ vi => n - (intOf vi).toNat)
  case atStart => exact ⟨0, Nat.zero_le _, rfl, rfl⟩
  case round =>
    obtain ⟨k, hk, rfl, rfl⟩ := hrel
    have hp0 := Nat.two_pow_pos k
    by_cases hlt : k < n
    · have hp : 2 ^ k ≤ 2 ^ 62 := Nat.pow_le_pow_right (by decide) (by omega)
      have hw : IntKind.u64.wrap (((2 ^ k : Nat) : Int) * 2) = ((2 ^ (k + 1) : Nat) : Int) := by
        rw [IntKind.wrap_u64, Nat.pow_succ]; omega
      obtain ⟨m, hm⟩ : ∃ m : Nat, m = 2 ^ k := ⟨_, rfl⟩
      rw [← hm] at hw ⊢
      clear hp hp0 hm
      go_wp2
      go_round
      case rel => exact ⟨k + 1, by omega, by go_num, rfl⟩
      case measure => simp [intOf]; omega
    · obtain rfl : k = n := by omega
      have hr : (a : Int) % ((2 ^ k : Nat) : Int) = (r : Int) := by rw [HR.out]; simp
      obtain ⟨m, hm⟩ : ∃ m : Nat, m = 2 ^ k := ⟨_, rfl⟩
      rw [← hm] at hr hp0 ⊢
      have hm0 : 0 < (m : Int) := by omega
      clear hm hp0
      go_wp2
      go_ret
      exact ⟨rfl, rfl⟩

theorem Cut_any (n : Nat) (hn : Okn n) (a : Nat) (ha : a < 18446744073709551616) (w : World) :
    Calls Tryz.prog 81 #[.int .i64 n, .int .u64 a] w fun e w' => e = .returned (.int .u64 ((a % 2 ^ n : Nat) : Int)) ∧ w = w' := by
  by_cases h : n = 64
  · subst h
    rw [Nat.mod_eq_of_lt (show a < 2 ^ 64 by omega)]
    show Calls Tryz.prog 81 #[.int .i64 64, .int .u64 a] w _
    go_enter Tryz.func81, Tryz.ntmps81
    go_wp2
    go_ret
    exact ⟨rfl, rfl⟩
  · exact Cut_small n (by have := hn.le; omega) a w

theorem bit_any (a k : Nat) (hk : k ≤ 1000) (ha : a < 18446744073709551616) (w : World) :
    Calls Tryz.prog 210 #[.int .u64 a, .int .i64 k] w fun e w' => e = .returned (.int .u64 ((a / 2 ^ k % 2 : Nat) : Int)) ∧ w = w' := by
  obtain ⟨r, hrr⟩ : ∃ r : Nat, r = a / 2 ^ k % 2 := ⟨_, rfl⟩
  rw [← hrr]
  have HR := hid hrr
  clear hrr
  go_enter Tryz.func210, Tryz.ntmps210
  go_wp2
  go_loop [0, 5] (fun va vi => ∃ j : Nat, j ≤ k ∧ vi = .int .i64 j ∧ va = .int .u64 ((a / 2 ^ j : Nat) : Int)) (fun _ vi => k - (intOf vi).toNat)
  case atStart => exact ⟨0, Nat.zero_le _, rfl, by simp⟩
  case round =>
    obtain ⟨j, hj, rfl, rfl⟩ := hrel
    have hd : a / 2 ^ j ≤ a := Nat.div_le_self _ _
    by_cases hlt : j < k
    · have hx : a / 2 ^ (j + 1) = a / 2 ^ j / 2 := by rw [Nat.pow_succ, Nat.div_div_eq_div_mul]
      obtain ⟨x, hxe⟩ : ∃ x : Nat, x = a / 2 ^ j := ⟨_, rfl⟩
      rw [← hxe] at hd hx ⊢
      have hdiv : (x : Int) / 2 = ((x / 2 : Nat) : Int) := by simp
      rw [← hx] at hdiv
      have hww := wrap_nat (show a / 2 ^ (j + 1) < 18446744073709551616 by omega)
      clear hx hxe
      obtain ⟨y, hy⟩ : ∃ y : Nat, y = a / 2 ^ (j + 1) := ⟨_, rfl⟩
      rw [← hy] at hdiv hww
      have HY := hid hy
      clear hy
      go_wp2
      go_round
      case rel => exact ⟨j + 1, by omega, by go_num, by rw [HY.out]⟩
      case measure => simp [intOf]; omega
    · obtain rfl : j = k := by omega
      obtain ⟨x, hxe⟩ : ∃ x : Nat, x = a / 2 ^ j := ⟨_, rfl⟩
      rw [← hxe] at hd ⊢
      have hr : (x : Int) % 2 = (r : Int) := by rw [HR.out, hxe]; simp
      clear hxe
      go_wp2
      go_ret
      exact ⟨rfl, rfl⟩

theorem top_bit {n x : Nat} (hn : Okn n) (hx : x < 2 ^ n) : x / 2 ^ (n - 1) % 2 = if 2 ^ (n - 1) ≤ x then 1 else 0 := by
  have h := testBit_top hn hx
  rw [Nat.testBit_eq_decide_div_mod_eq] at h
  have := decide_eq_decide.1 h
  split <;> omega

theorem RSigned_bad (b : Int) (hb : Bad b) (a : Int) (w : World) : Calls Tryz.prog 143 #[.int .i64 b, .int .u64 a] w fun e w' => e = .returned (.int .i64 0) ∧ w = w' := by
  have HK := hid (Right_no b hb w)
  clear hb
  go_enter Tryz.func143, Tryz.ntmps143
  go_wp2_with (go_at_call 196; refine HK.out.mono ?_; rintro e w' ⟨rfl, rfl⟩)
  go_ret
  exact ⟨rfl, rfl⟩

set_option maxHeartbeats 800000 in
theorem RSigned_ok (n : Nat) (hn : Okn n) (a : Nat) (ha : a < 18446744073709551616) (w : World) :
    Calls Tryz.prog 143 #[.int .i64 n, .int .u64 a] w fun e w' => e = .returned (.int .i64 (sg n (a % 2 ^ n))) ∧ w = w' := by
  obtain ⟨h1, h2, h3, h4⟩ := pow_lt64 hn
  have hn8 := hn.le
  have HK := hid (Right_yes n hn w)
  have HX := hid (Cut_any n hn a ha w)
  obtain ⟨x, hx⟩ : ∃ x : Nat, x = a % 2 ^ n := ⟨_, rfl⟩
  have hxl : x < 2 ^ n := by rw [hx]; exact Nat.mod_lt _ (Nat.two_pow_pos n)
  rw [← hx] at HX ⊢
  have hc1 : ((n - 1 : Nat) : Int) = (n : Int) - 1 := by omega
  have hB := bit_any x (n - 1) (by omega) (by omega) w
  rw [hc1, top_bit hn hxl] at hB
  have hz : IntKind.u64.wrap (-(x : Int)) = (((18446744073709551616 - x) % 18446744073709551616 : Nat) : Int) := by
    rw [IntKind.wrap_u64]; omega
  by_cases hc : 2 ^ (n - 1) ≤ x
  · rw [if_pos hc] at hB
    have HB : Hid (Calls Tryz.prog 210 #[.int .u64 x, .int .i64 ((n : Int) - 1)] w fun e w' => e = .returned (.int .u64 1) ∧ w = w') := hB
    have hC := Cut_any n hn ((18446744073709551616 - x) % 18446744073709551616) (by omega) w
    rw [neg_mod hn hxl hc] at hC
    obtain ⟨z, hze⟩ : ∃ z : Nat, z = (18446744073709551616 - x) % 18446744073709551616 := ⟨_, rfl⟩
    obtain ⟨y, hy⟩ : ∃ y : Nat, y = 2 ^ n - x := ⟨_, rfl⟩
    have hs : sg n x = -((y : Int) - 1) - 1 := by unfold sg; rw [if_pos hc]; omega
    have hw1 : IntKind.u64.wrap ((y : Int) - 1) = ((y - 1 : Nat) : Int) := by rw [IntKind.wrap_u64]; omega
    have hy1 : y - 1 < 9223372036854775808 := by omega
    have hcast : ((y - 1 : Nat) : Int) = (y : Int) - 1 := by omega
    obtain ⟨t, ht⟩ : ∃ t : Nat, t = y - 1 := ⟨_, rfl⟩
    rw [← hze, ← hy] at hC
    rw [← hze] at hz
    rw [← ht] at hw1 hy1 hcast
    have hs2 : sg n x = -(t : Int) - 1 := by omega
    rw [hs2]
    have HC := hid hC
    have HT := hid hy1
    have hn1 : -9223372036854775808 ≤ -(t : Int) - 1 := by omega
    have ht1 : (t : Int) ≤ 9223372036854775807 := by omega
    clear h1 h2 h3 h4 hn hxl hx hc1 hB hc hC hze hy hs ht hs2 hcast hy1
    go_enter Tryz.func143, Tryz.ntmps143
    go_wp2_with (first
      | (go_at_call 196; refine HK.out.mono ?_; rintro e w' ⟨rfl, rfl⟩)
      | (go_at_call 81; ((with_reducible refine HX.out.mono ?_); rintro e w' ⟨rfl, rfl⟩))
      | (go_at_call 210; ((with_reducible refine HB.out.mono ?_); rintro e w' ⟨rfl, rfl⟩))
      | (go_at_call 81; ((with_reducible refine HC.out.mono ?_); rintro e w' ⟨rfl, rfl⟩)))
    go_ret
    exact ⟨ret_int (by first | rfl | (unfold wrap64; omega)), rfl⟩
  · rw [if_neg hc] at hB
    have HB : Hid (Calls Tryz.prog 210 #[.int .u64 x, .int .i64 ((n : Int) - 1)] w fun e w' => e = .returned (.int .u64 0) ∧ w = w') := hB
    have hs : sg n x = x := by unfold sg; rw [if_neg hc]
    have hx1 : (x : Int) ≤ 9223372036854775807 := by omega
    rw [hs]
    clear h1 h2 h3 h4 hn hxl hx hc1 hB hc hs hz
    go_enter Tryz.func143, Tryz.ntmps143
    go_wp2_with (first
      | (go_at_call 196; refine HK.out.mono ?_; rintro e w' ⟨rfl, rfl⟩)
      | (go_at_call 81; ((with_reducible refine HX.out.mono ?_); rintro e w' ⟨rfl, rfl⟩))
      | (go_at_call 210; ((with_reducible refine HB.out.mono ?_); rintro e w' ⟨rfl, rfl⟩)))
    go_ret
    exact ⟨ret_int (by first | rfl | (unfold wrap64; omega)), rfl⟩

end Go.Proofs.YtlhakbkdlgejpaaGreatDoor
namespace Go.Proofs.YtlhakbkdlgejpaaGreatDoor
open Go.RowKit

theorem info22 : (Tryz.prog.info? 22).map (fun i => (i.zero, i.size, i.bytes)) = some (some (.int .u64 0), 1, 8) := by kernel_rfl

/-- The cells of f 0, .., f (n - 1). -/
def fc (n : Nat) (f : Nat → Nat) : List Value := (List.range n).map fun j => Value.int .u64 (f j : Nat)

theorem fc_length (n : Nat) (f : Nat → Nat) : (fc n f).length = n := by simp [fc]
theorem fc_get {n : Nat} {f : Nat → Nat} {j : Nat} (hj : j < n) : (fc n f)[j]? = some (.int .u64 (f j : Nat)) := by
  simp [fc, hj]
theorem fc_snoc (n : Nat) (f : Nat → Nat) : fc n f ++ [.int .u64 (f n : Nat)] = fc (n + 1) f := by
  simp [fc, List.range_succ]
theorem fc_set (n : Nat) (f : Nat → Nat) (i v : Nat) : (fc n f).set i (.int .u64 (v : Nat)) = fc n (fun j => if j = i then v else f j) := by
  apply List.ext_getElem?
  intro j
  by_cases hj : j < n
  · rw [fc_get hj, List.getElem?_set]
    by_cases hij : i = j
    · subst hij
      simp [fc_length, hj]
    · rw [if_neg hij, fc_get hj]
      have : ¬ j = i := fun h => hij h.symm
      simp [this]
  · simp [fc, hj]
theorem fc_congr {n : Nat} {f g : Nat → Nat} (h : ∀ j, j < n → f j = g j) : fc n f = fc n g := by
  unfold fc
  apply List.map_congr_left
  intro j hj
  rw [h j (by simpa using hj)]
theorem fc_one (n : Nat) (f : Nat → Nat) : ∀ u ∈ fc n f, u.oneCell' = true := by
  intro u hu
  simp only [fc, List.mem_map] at hu
  obtain ⟨j, _, rfl⟩ := hu
  rfl

theorem append_u64 {w : World} {ops : Array Oper} {rest : List Oper} {o : Oper} {a : Act} {Q : Exit → Act → World → Prop} (hgd : o.guard = none) (s x : Operand)
    (ho : o.op = .call { callee := .builtin .append, args := #[s, x], argTypes := #[40, 40] }) (base : Nat) (v : Value) (n : Nat) (xs : List Value) (q : Int)
    (hown : w.ownsRow base 22 1 v n xs) (hbase : base ≤ w.heap.size) (hn : n + 1 ≤ 1000000) (hs : a.eval s = v) (hx : a.eval x = .slice (some ⟨w.heap.size, 0, none⟩) 1 1)
    (h : ∀ v' w', w'.ownsRow base 22 1 v' (n + 1) (xs ++ [.int .u64 q]) → Below base w w' → base ≤ w'.heap.size → wpList Tryz.prog ops Q rest (a.put o.dst v') w') :
    wpList Tryz.prog ops Q (o :: rest) a (w.alloc (.cells #[.int .u64 q] 22)) := by
  obtain ⟨i0, hi, hz0, hz1, hz2⟩ := info_parts info22
  have hb1 := (Below.refl base w).alloc hbase (.cells #[.int .u64 q] 22)
  refine wpList_append_own _ hgd s x 40 ho base 22 i0 (.int .u64 0) 1 8 Tryz.underlying40 hi hz0 hz1 hz2 rfl (by decide) v n xs hs (hown.alloc _) ⟨w.heap.size, 0, none⟩ 1 1 [.int .u64 q] hx rfl (cell_one_new _ _ _)
    (fun u hu => by simp at hu; subst hu; rfl) (by unfold maxLen; omega) (by omega) (by simp; omega) ?_
  intro v' w1 hown' hgrow _
  exact h v' w1 hown' (hb1.grown hgrow (by simp; omega) (fun k hk => (hown.lt k hk).1)) (by have := hgrow.size; simp at this; omega)

theorem owned_at {w : World} {base : Nat} {e : TypeId} {v : Value} {n : Nat} {xs : List Value} (h : w.ownsRow base e 1 v n xs) (hn : 1 ≤ n) : ∃ g cap, v = .slice (some ⟨g, 0, none⟩) n cap := by
  rcases h.2 with ⟨_, h⟩ | ⟨g, cap, _, h, _⟩
  · omega
  · exact ⟨g, cap, h⟩

/-- The j-th bit. -/
def btN (a j : Nat) : Nat := a / 2 ^ j % 2

/-- list: the lowest n bits in new memory. -/
def ListPost (w : World) (n a : Nat) (e : Ending) (w' : World) : Prop := ∃ v', e = .returned v' ∧ w'.ownsRow w.heap.size 22 1 v' n (fc n (btN a)) ∧ Below w.heap.size w w'

set_option maxHeartbeats 800000 in
theorem list_any (n : Nat) (hn : n ≤ 64) (a : Nat) (ha : a < 18446744073709551616) (w : World) :
    Calls Tryz.prog 228 #[.int .i64 n, .int .u64 a] w (ListPost w n a) := by
  have HA := hid ha
  clear ha
  go_enter Tryz.func228, Tryz.ntmps228
  go_wp2
  go_loopw [1, 5, 6] (fun va vl vi wr => ∃ k : Nat, k ≤ n ∧ vi = .int .i64 k ∧ va = .int .u64 ((a / 2 ^ k : Nat) : Int) ∧ wr.ownsRow w.heap.size 22 1 vl k (fc k (btN a)) ∧ Below w.heap.size w wr)
    (fun _ _ vi _ => n - (intOf vi).toNat)
  case atStart => exact ⟨0, Nat.zero_le _, rfl, by simp, by simpa [fc] using World.ownsRow_nil w w.heap.size 22 1, Below.refl _ _⟩
  case round =>
    obtain ⟨k, hk, rfl, rfl, hown, hnx⟩ := hrel
    have hwr := hnx.size
    by_cases hlt : k < n
    · have hd : a / 2 ^ k ≤ a := Nat.div_le_self _ _
      have ha := HA.out
      have hx : a / 2 ^ (k + 1) = a / 2 ^ k / 2 := by rw [Nat.pow_succ, Nat.div_div_eq_div_mul]
      have hb : btN a k = a / 2 ^ k % 2 := rfl
      have hsn := fc_snoc k (btN a)
      rw [hb] at hsn
      obtain ⟨x, hxe⟩ : ∃ x : Nat, x = a / 2 ^ k := ⟨_, rfl⟩
      rw [← hxe] at hd hx hsn ⊢
      have hdiv : (x : Int) / 2 = ((a / 2 ^ (k + 1) : Nat) : Int) := by rw [hx]; simp
      have hww := wrap_nat (show a / 2 ^ (k + 1) < 18446744073709551616 by omega)
      have hr : (x : Int) % 2 = ((x % 2 : Nat) : Int) := by simp
      obtain ⟨y, hy⟩ : ∃ y : Nat, y = a / 2 ^ (k + 1) := ⟨_, rfl⟩
      obtain ⟨r, hre⟩ : ∃ r : Nat, r = x % 2 := ⟨_, rfl⟩
      rw [← hy] at hdiv hww
      rw [← hre] at hr hsn
      have HY := hid hy
      have HS := hid hsn
      have HW := hid hown
      have HX := hid hnx
      clear ha hd hx hb hsn hxe hy hre hown hnx
      go_wp2_with (at_builtin; refine append_u64 rfl _ _ rfl w.heap.size _ _ _ (r : Int) HW.out hwr (by omega) rfl rfl ?_; intro v' w3 hown' hnx3 hsz3)
      go_roundw
      case rel => exact ⟨k + 1, by omega, by go_num, by rw [HY.out], by rw [← HS.out]; exact hown', HX.out.trans hnx3⟩
      case measure => simp [intOf]; omega
    · obtain rfl : k = n := by omega
      have HW := hid hown
      have HX := hid hnx
      clear hown hnx
      go_wp2
      go_ret
      exact ⟨_, rfl, HW.out, HX.out⟩

end Go.Proofs.YtlhakbkdlgejpaaGreatDoor
namespace Go.Proofs.YtlhakbkdlgejpaaGreatDoor.Sc
open Go.RowKit

theorem cell_far {W : World} {c o g k : Nat} {v : Value} (h : c ≠ g) : (W.setCell ⟨c, o, none⟩ v).cell? ⟨g, k, none⟩ = W.cell? ⟨g, k, none⟩ := by
  unfold World.cell? World.setCell
  simp [Array.getElem?_modify, h]
theorem Num_says (op : Int) (hN : (69 ≤ op ∧ op ≤ 196) ∨ (64512 ≤ op ∧ op ≤ 64519)) (w : World) : Calls Tryz.prog 24 #[.int .i64 op] w fun e w' => e = .returned (.bool true) ∧ w = w' := by
  have d0 : decide (op < 64768) = true := by simp; omega
  have d1 : decide (69 ≤ op) = true := by simp; omega
  rcases hN with h | h
  · have d2 : decide (op ≤ 196) = true := by simp; omega
    clear h
    go_enter Tryz.func24, Tryz.ntmps24
    go_wp2
    go_ret
    exact ⟨rfl, rfl⟩
  · have d2 : decide (op ≤ 196) = false := by simp; omega
    have d3 : decide (64512 ≤ op) = true := by simp; omega
    have d4 : decide (op ≤ 64519) = true := by simp; omega
    clear h
    go_enter Tryz.func24, Tryz.ntmps24
    go_wp2
    go_ret
    exact ⟨rfl, rfl⟩
theorem hasType_says (t lo hi : Int) (nl : Bool) (w : World) : Calls Tryz.prog 48 #[.agg #[.int .i64 t, .int .u64 lo, .int .u64 hi, .bool nl], .int .i64 t] w fun e w' => e = .returned (.bool true) ∧ Below w.heap.size w w' := by
  have d : (t == t) = true := by simp
  go_enter Tryz.func48, Tryz.ntmps48
  go_wp2
  go_ret
  exact ⟨rfl, (Below.refl _ _).alloc (Nat.le_refl _) _⟩
theorem fn48 : ∀ args w, (callFunc 48 args).run Tryz.prog w = .ok (.enter 48 args) w := fun _ _ => rfl

set_option maxHeartbeats 4000000 in
set_option maxRecDepth 100000 in
theorem EF_says (l : List Av) (hl1 : 1 ≤ l.length) (hl : l.length ≤ 10) (va : Value) (g2 c2 : Nat) (w : World) (ha : AR w va l) (hg2 : g2 < w.heap.size) (ht : ∀ j a, l[j]? = some a → w.cell? ⟨g2, j, none⟩ = some (.int .i64 a.1)) :
    Calls Tryz.prog 47 #[va, .slice (some ⟨g2, 0, none⟩) l.length c2, .func (.func 48) #[] #[]] w fun e w' => e = .returned (.bool true) ∧ Below w.heap.size w w' := by
  obtain ⟨ga, ca, rfl, hga, hca, hata⟩ := ha
  have HA := hid hata
  have HTC := hid ht
  have eg := fn48
  obtain ⟨n, hn⟩ : ∃ n, n = l.length := ⟨_, rfl⟩
  rw [← hn] at hca hl1 hl ⊢
  have HN := hid hn
  have hnn : ((n : Int) != (n : Int)) = false := by simp
  clear hata hn ht
  go_enter Tryz.func47, Tryz.ntmps47
  go_wp2
  go_loopw [17] (fun vi wr => ∃ i : Nat, i ≤ n ∧ vi = .int .i64 i ∧ Hid (Below w.heap.size w wr)) (fun vi _ => n - (intOf vi).toNat)
  case atStart => exact ⟨0, Nat.zero_le _, rfl, Below.refl _ _⟩
  case round =>
    obtain ⟨i, hin, rfl, HB⟩ := hrel
    by_cases hlt : i < n
    · obtain ⟨⟨t, lo, hi, nl⟩, hja⟩ : ∃ a, l[i]? = some a := ⟨l[i]'(by rw [← HN.out]; exact hlt), by simp [← HN.out, hlt]⟩
      obtain ⟨h0, h1, h2, h3⟩ := HA.out i _ hja
      have ht0 := HTC.out i _ hja
      have HT := fun W => hid (hasType_says t (lo : Nat) (hi : Nat) nl W)
      have e0 := (HB.out.cell (p := ⟨ga, i * 4, none⟩) hga).trans h0
      have e1 := (HB.out.cell (p := ⟨ga, i * 4 + 1, none⟩) hga).trans h1
      have e2 := (HB.out.cell (p := ⟨ga, i * 4 + 2, none⟩) hga).trans h2
      have e3 := (HB.out.cell (p := ⟨ga, i * 4 + 3, none⟩) hga).trans h3
      have u0 := fun o => ((HB.out.alloc HB.out.size o).cell (p := ⟨g2, i, none⟩) hg2).trans ht0
      have hgr : ga < wr.heap.size := Nat.lt_of_lt_of_le hga HB.out.size
      have hg2r : g2 < wr.heap.size := Nat.lt_of_lt_of_le hg2 HB.out.size
      simp only [] at e0 e1 e2 e3 u0
      clear h0 h1 h2 h3 ht0 hja
      go_wp2_with (go_at_call 48; (with_reducible refine (HT _).out.mono ?_); rintro e w3 ⟨rfl, hb3⟩; have HB3 := hid ((HB.out.alloc HB.out.size (.cells #[.int .i64 t, .int .u64 (lo : Nat), .int .u64 (hi : Nat), .bool nl] 24)).trans (hb3.mono (by have := HB.out.size; rw [size_al]; omega))); clear hb3)
      go_roundw
      case rel => exact ⟨i + 1, by omega, by go_num, HB3.out⟩
      case measure => simp [intOf]; omega
    · obtain rfl : i = n := by omega
      go_wp2
      go_ret
      exact ⟨rfl, HB.out⟩

end Go.Proofs.YtlhakbkdlgejpaaGreatDoor.Sc
