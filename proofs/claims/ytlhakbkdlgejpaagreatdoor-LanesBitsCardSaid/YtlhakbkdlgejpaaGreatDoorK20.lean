/-
  RefDiv: merged, what the law does not reach left out (each text says what it holds where it lies in wip). No condition.
-/
import Derived.Test.YtlhakbkdlgejpaaGreatDoorK19
set_option linter.unusedSimpArgs false
set_option linter.unusedVariables false
set_option maxRecDepth 100000
namespace Go.Proofs.YtlhakbkdlgejpaaGreatDoor
open Go.RowKit
def DivPost (w : World) (s : Nat × Nat) (e : Ending) (w' : World) : Prop := e = .returned (.tuple #[.int .u64 (s.1 : Nat), .int .i64 (s.2 : Nat)]) ∧ Below w.heap.size w w'
theorem div_post {w w' : World} {s : Nat × Nat} {v c : Int} (h1 : v = (s.1 : Nat)) (h2 : c = (s.2 : Nat)) (hb : Below w.heap.size w w') : DivPost w s (.returned (.tuple #[.int .u64 v, .int .i64 c])) w' := by
  subst h1; subst h2; exact ⟨rfl, hb⟩
theorem rdiv_zero (n : Nat) (op x y : Int) (a : Nat) (w : World) :
    Calls Tryz.prog 230 #[.int .i64 n, .int .i64 op, .int .u64 a, .int .u64 0, .int .i64 x, .int .i64 y] w (DivPost w (0, 41)) := by
  go_enter Tryz.func230, Tryz.ntmps230
  go_wp2
  go_ret2
  exact div_post rfl rfl (Below.refl _ _)
theorem rdiv_u (n : Nat) (a b : Nat) (ha : a < 18446744073709551616) (hb : b ≠ 0) (hb2 : b < 18446744073709551616) (x y : Int) (w : World) :
    Calls Tryz.prog 230 #[.int .i64 n, .int .i64 5, .int .u64 a, .int .u64 b, .int .i64 x, .int .i64 y] w (DivPost w (a / b, 0)) := by
  have HQ := hid (quo_any a b ha hb hb2 w)
  have hne : ((b : Int) == 0) = false := by simp; omega
  obtain ⟨q, hq⟩ : ∃ q : Nat, q = a / b := ⟨_, rfl⟩
  obtain ⟨r, hr⟩ : ∃ r : Nat, r = a % b := ⟨_, rfl⟩
  unfold QuoPost at HQ
  rw [← hq, ← hr] at HQ
  rw [← hq]
  clear hq hr ha hb hb2
  go_enter Tryz.func230, Tryz.ntmps230
  go_wp2_with (go_at_call 263; refine HQ.out.mono ?_; rintro e w1 ⟨rfl, hB1⟩)
  go_ret2
  exact div_post rfl rfl hB1
theorem rrem_u (n : Nat) (a b : Nat) (ha : a < 18446744073709551616) (hb : b ≠ 0) (hb2 : b < 18446744073709551616) (x y : Int) (w : World) :
    Calls Tryz.prog 230 #[.int .i64 n, .int .i64 7, .int .u64 a, .int .u64 b, .int .i64 x, .int .i64 y] w (DivPost w (a % b, 0)) := by
  have HQ := hid (quo_any a b ha hb hb2 w)
  have hne : ((b : Int) == 0) = false := by simp; omega
  obtain ⟨q, hq⟩ : ∃ q : Nat, q = a / b := ⟨_, rfl⟩
  obtain ⟨r, hr⟩ : ∃ r : Nat, r = a % b := ⟨_, rfl⟩
  unfold QuoPost at HQ
  rw [← hq, ← hr] at HQ
  rw [← hr]
  clear hq hr ha hb hb2
  go_enter Tryz.func230, Tryz.ntmps230
  go_wp2_with (go_at_call 263; refine HQ.out.mono ?_; rintro e w1 ⟨rfl, hB1⟩)
  go_ret2
  exact div_post rfl rfl hB1
theorem over_iff {n a b : Nat} (hn : Okn n) (ha : a < 2 ^ n) (hb : b < 2 ^ n) (h0 : b ≠ 0) (hs : sg n a < 0 ↔ sg n b < 0) :
    (2 ^ (n - 1) ≤ (sg n a).natAbs / (sg n b).natAbs) ↔ (a = 2 ^ (n - 1) ∧ b = 2 ^ n - 1) := by
  obtain ⟨h1, h2, h3, h4⟩ := pow_lt64 hn
  have hA := size_le hn ha
  have hB := natAbs_pos_of h0 hb
  rw [Nat.le_div_iff_mul_le hB]
  constructor
  · intro h
    have hB1 : (sg n b).natAbs = 1 := by
      by_cases h5 : 2 ≤ (sg n b).natAbs
      · have := Nat.mul_le_mul_left (2 ^ (n - 1)) h5
        omega
      · omega
    rw [hB1, Nat.mul_one, sg_abs ha] at h
    rw [sg_abs hb] at hB1
    rw [sg_neg ha, sg_neg hb] at hs
    clear hA hB
    split at h
    · rename_i h6
      rw [if_pos (hs.1 h6)] at hB1
      omega
    · omega
  · rintro ⟨rfl, rfl⟩
    have e1 : (sg n (2 ^ (n - 1))).natAbs = 2 ^ (n - 1) := by rw [sg_abs ha]; split <;> omega
    have e2 : (sg n (2 ^ n - 1)).natAbs = 1 := by rw [sg_abs hb]; split <;> omega
    rw [e1, e2]; omega
set_option maxHeartbeats 1600000 in
theorem rrem_s (n : Nat) (hn : Okn n) (a b : Nat) (ha : a < 2 ^ n) (hb : b ≠ 0) (hbn : b < 2 ^ n) (w : World) :
    Calls Tryz.prog 230 #[.int .i64 n, .int .i64 6, .int .u64 a, .int .u64 b, .int .i64 (sg n a), .int .i64 (sg n b)] w (DivPost w (toN n ((sg n a).tmod (sg n b)), 0)) := by
  obtain ⟨h1, h2, h3, h4⟩ := pow_lt64 hn
  have hne : ((b : Int) == 0) = false := by simp; omega
  have hA := size_le hn ha
  have hB := size_le hn hbn
  have hB0 := natAbs_pos_of hb hbn
  have rA := sg_range hn ha
  have rB := sg_range hn hbn
  obtain ⟨x, hx⟩ : ∃ x, x = sg n a := ⟨_, rfl⟩
  obtain ⟨y, hy⟩ : ∃ y, y = sg n b := ⟨_, rfl⟩
  rw [← hx, ← hy]
  rw [← hx] at hA rA
  rw [← hy] at hB hB0 rB
  have HA := hid (rsize_any x (by omega) (by omega) w)
  have HB := hid (rsize_any y (by omega) (by omega) w)
  have hQ := quo_any x.natAbs y.natAbs (by omega) (by omega) (by omega) w
  unfold QuoPost at hQ
  have hrl : x.natAbs % y.natAbs < y.natAbs := Nat.mod_lt _ (by omega)
  obtain ⟨A, hAe⟩ : ∃ A : Nat, A = x.natAbs := ⟨_, rfl⟩
  obtain ⟨B, hBe⟩ : ∃ B : Nat, B = y.natAbs := ⟨_, rfl⟩
  obtain ⟨q, hq⟩ : ∃ q : Nat, q = A / B := ⟨_, rfl⟩
  obtain ⟨r, hr⟩ : ∃ r : Nat, r = A % B := ⟨_, rfl⟩
  rw [← hAe] at HA
  rw [← hBe] at HB
  rw [← hAe, ← hBe, ← hq, ← hr] at hQ
  rw [← hAe, ← hBe, ← hr] at hrl
  have HQ := hid hQ
  have hr64 : r < 18446744073709551616 := by omega
  by_cases hs : x < 0
  · have hv : toN n (x.tmod y) = (18446744073709551616 - r) % 18446744073709551616 % 2 ^ n := by
      rw [tmod_negs hs, ← hAe, ← hBe, ← hr, toN_neg hn r (by omega)]
    have hw : IntKind.u64.wrap (-(r : Int)) = (((18446744073709551616 - r) % 18446744073709551616 : Nat) : Int) := by
      rw [IntKind.wrap_u64]; omega
    have HC : Hid (∀ W : World, Calls Tryz.prog 81 #[.int .i64 n, .int .u64 ((18446744073709551616 - r) % 18446744073709551616 : Nat)] W fun e w' => e = .returned (.int .u64 (toN n (x.tmod y) : Nat)) ∧ W = w') := fun W => by
      rw [hv]
      exact Cut_any n hn _ (by omega) W
    obtain ⟨t, ht⟩ : ∃ t : Nat, t = (18446744073709551616 - r) % 18446744073709551616 := ⟨_, rfl⟩
    obtain ⟨s, hse⟩ : ∃ s : Nat, s = toN n (x.tmod y) := ⟨_, rfl⟩
    rw [← ht] at hw HC
    rw [← hse] at HC ⊢
    clear h1 h2 h3 h4 ha hb hbn hA hB hB0 rA rB hx hy hQ hrl hAe hBe hq hr hr64 hv ht hse hn
    go_enter Tryz.func230, Tryz.ntmps230
    go_wp2_with (first
      | (go_at_call 264; ((with_reducible refine HA.out.mono ?_); rintro e w' ⟨rfl, rfl⟩))
      | (go_at_call 264; ((with_reducible refine HB.out.mono ?_); rintro e w' ⟨rfl, rfl⟩))
      | (go_at_call 263; refine HQ.out.mono ?_; rintro e w1 ⟨rfl, hB1⟩)
      | (go_at_call 81; refine (HC.out _).mono ?_; rintro e w' ⟨rfl, rfl⟩))
    go_ret2
    exact div_post rfl rfl hB1
  · have hv : toN n (x.tmod y) = r % 2 ^ n := by
      rw [tmod_pos hs, ← hAe, ← hBe, ← hr, toN_nat]
    have HC : Hid (∀ W : World, Calls Tryz.prog 81 #[.int .i64 n, .int .u64 r] W fun e w' => e = .returned (.int .u64 (toN n (x.tmod y) : Nat)) ∧ W = w') := fun W => by
      rw [hv]
      exact Cut_any n hn _ hr64 W
    obtain ⟨s, hse⟩ : ∃ s : Nat, s = toN n (x.tmod y) := ⟨_, rfl⟩
    rw [← hse] at HC ⊢
    clear h1 h2 h3 h4 ha hb hbn hA hB hB0 rA rB hx hy hQ hrl hAe hBe hq hr hr64 hv hse hn
    go_enter Tryz.func230, Tryz.ntmps230
    go_wp2_with (first
      | (go_at_call 264; ((with_reducible refine HA.out.mono ?_); rintro e w' ⟨rfl, rfl⟩))
      | (go_at_call 264; ((with_reducible refine HB.out.mono ?_); rintro e w' ⟨rfl, rfl⟩))
      | (go_at_call 263; refine HQ.out.mono ?_; rintro e w1 ⟨rfl, hB1⟩)
      | (go_at_call 81; refine (HC.out _).mono ?_; rintro e w' ⟨rfl, rfl⟩))
    go_ret2
    exact div_post rfl rfl hB1
set_option maxHeartbeats 1600000 in
theorem rdiv_s (n : Nat) (hn : Okn n) (a b : Nat) (ha : a < 2 ^ n) (hb : b ≠ 0) (hbn : b < 2 ^ n) (w : World) :
    Calls Tryz.prog 230 #[.int .i64 n, .int .i64 4, .int .u64 a, .int .u64 b, .int .i64 (sg n a), .int .i64 (sg n b)] w (DivPost w (if a = 2 ^ (n - 1) ∧ b = 2 ^ n - 1 then (0, 42) else (toN n ((sg n a).tdiv (sg n b)), 0))) := by
  obtain ⟨h1, h2, h3, h4⟩ := pow_lt64 hn
  have hn8 := hn.le
  have hne : ((b : Int) == 0) = false := by simp; omega
  have hA := size_le hn ha
  have hB := size_le hn hbn
  have hB0 := natAbs_pos_of hb hbn
  have rA := sg_range hn ha
  have rB := sg_range hn hbn
  have hov := over_iff hn ha hbn hb
  obtain ⟨x, hx⟩ : ∃ x, x = sg n a := ⟨_, rfl⟩
  obtain ⟨y, hy⟩ : ∃ y, y = sg n b := ⟨_, rfl⟩
  rw [← hx, ← hy]
  rw [← hx] at hA rA
  rw [← hy] at hB hB0 rB
  rw [← hx, ← hy] at hov
  have HA := hid (rsize_any x (by omega) (by omega) w)
  have HB := hid (rsize_any y (by omega) (by omega) w)
  have hQ := quo_any x.natAbs y.natAbs (by omega) (by omega) (by omega) w
  unfold QuoPost at hQ
  have hql : x.natAbs / y.natAbs ≤ x.natAbs := Nat.div_le_self _ _
  obtain ⟨A, hAe⟩ : ∃ A : Nat, A = x.natAbs := ⟨_, rfl⟩
  obtain ⟨B, hBe⟩ : ∃ B : Nat, B = y.natAbs := ⟨_, rfl⟩
  obtain ⟨q, hq⟩ : ∃ q : Nat, q = A / B := ⟨_, rfl⟩
  obtain ⟨r, hr⟩ : ∃ r : Nat, r = A % B := ⟨_, rfl⟩
  rw [← hAe] at HA
  rw [← hBe] at HB
  rw [← hAe, ← hBe, ← hq, ← hr] at hQ
  rw [← hAe, ← hBe, ← hq] at hql hov
  rw [← hAe] at hA
  have HQ := hid hQ
  have hq64 : q < 18446744073709551616 := by omega
  by_cases hs : x < 0 ↔ y < 0
  · have hov2 := hov hs
    have hdec : ∃ p : Bool, decide (x < 0) = p ∧ decide (y < 0) = p := ⟨_, rfl, decide_eq_decide.2 hs.symm⟩
    obtain ⟨p, hp1, hp2⟩ := hdec
    have hc1 : ((n - 1 : Nat) : Int) = (n : Int) - 1 := by omega
    have hv : toN n (x.tdiv y) = q := by
      rw [tdiv_same hs, ← hAe, ← hBe, ← hq, toN_nat, Nat.mod_eq_of_lt (by omega)]
    by_cases ho : 2 ^ (n - 1) ≤ q
    · rw [if_pos (hov2.1 ho)]
      have HT : Hid (∀ W : World, Calls Tryz.prog 210 #[.int .u64 q, .int .i64 ((n : Int) - 1)] W fun e w' => e = .returned (.int .u64 1) ∧ W = w') := fun W => by
        have := bit_any q (n - 1) (by omega) hq64 W
        rw [hc1, top_bit hn (by omega), if_pos ho] at this
        exact this
      clear h1 h2 h3 h4 ha hb hbn hA hB hB0 rA rB hx hy hQ hql hAe hBe hq hr hq64 hv hn hov hov2 hc1 hs ho
      cases p
      all_goals
        go_enter Tryz.func230, Tryz.ntmps230
        go_wp2_with (first
          | (go_at_call 264; ((with_reducible refine HA.out.mono ?_); rintro e w' ⟨rfl, rfl⟩))
          | (go_at_call 264; ((with_reducible refine HB.out.mono ?_); rintro e w' ⟨rfl, rfl⟩))
          | (go_at_call 263; refine HQ.out.mono ?_; rintro e w1 ⟨rfl, hB1⟩)
          | (go_at_call 210; refine (HT.out _).mono ?_; rintro e w' ⟨rfl, rfl⟩))
        go_ret2
        exact div_post rfl rfl hB1
    · rw [if_neg (fun h => ho (hov2.2 h)), hv]
      have HT : Hid (∀ W : World, Calls Tryz.prog 210 #[.int .u64 q, .int .i64 ((n : Int) - 1)] W fun e w' => e = .returned (.int .u64 0) ∧ W = w') := fun W => by
        have := bit_any q (n - 1) (by omega) hq64 W
        rw [hc1, top_bit hn (by omega), if_neg ho] at this
        exact this
      clear h1 h2 h3 h4 ha hb hbn hA hB hB0 rA rB hx hy hQ hql hAe hBe hq hr hq64 hv hn hov hov2 hc1 hs ho
      cases p
      all_goals
        go_enter Tryz.func230, Tryz.ntmps230
        go_wp2_with (first
          | (go_at_call 264; ((with_reducible refine HA.out.mono ?_); rintro e w' ⟨rfl, rfl⟩))
          | (go_at_call 264; ((with_reducible refine HB.out.mono ?_); rintro e w' ⟨rfl, rfl⟩))
          | (go_at_call 263; refine HQ.out.mono ?_; rintro e w1 ⟨rfl, hB1⟩)
          | (go_at_call 210; refine (HT.out _).mono ?_; rintro e w' ⟨rfl, rfl⟩))
        go_ret2
        exact div_post rfl rfl hB1
  · have hno : ¬ (a = 2 ^ (n - 1) ∧ b = 2 ^ n - 1) := fun h => hs (by
      have e1 := sg_neg (n := n) ha
      have e2 := sg_neg (n := n) hbn
      rw [hx, hy, e1, e2]
      omega)
    rw [if_neg hno]
    have hv : toN n (x.tdiv y) = (18446744073709551616 - q) % 18446744073709551616 % 2 ^ n := by
      rw [tdiv_other hs, ← hAe, ← hBe, ← hq, toN_neg hn q (by omega)]
    have hw : IntKind.u64.wrap (-(q : Int)) = (((18446744073709551616 - q) % 18446744073709551616 : Nat) : Int) := by
      rw [IntKind.wrap_u64]; omega
    have HC : Hid (∀ W : World, Calls Tryz.prog 81 #[.int .i64 n, .int .u64 ((18446744073709551616 - q) % 18446744073709551616 : Nat)] W fun e w' => e = .returned (.int .u64 (toN n (x.tdiv y) : Nat)) ∧ W = w') := fun W => by
      rw [hv]
      exact Cut_any n hn _ (by omega) W
    obtain ⟨t, ht⟩ : ∃ t : Nat, t = (18446744073709551616 - q) % 18446744073709551616 := ⟨_, rfl⟩
    obtain ⟨s, hse⟩ : ∃ s : Nat, s = toN n (x.tdiv y) := ⟨_, rfl⟩
    rw [← ht] at hw HC
    rw [← hse] at HC ⊢
    have hcase : decide (x < 0) = true ∧ decide (y < 0) = false ∨ decide (x < 0) = false ∧ decide (y < 0) = true := by
      by_cases hx0 : x < 0
      · exact .inl ⟨decide_eq_true hx0, decide_eq_false fun hy0 => hs ⟨fun _ => hy0, fun _ => hx0⟩⟩
      · refine .inr ⟨decide_eq_false hx0, decide_eq_true ?_⟩
        by_cases hy0 : y < 0
        · exact hy0
        · exact absurd ⟨fun h => absurd h hx0, fun h => absurd h hy0⟩ hs
    clear h1 h2 h3 h4 ha hb hbn hA hB hB0 rA rB hx hy hQ hql hAe hBe hq hr hq64 hv hn hov hs ht hse hno
    rcases hcase with ⟨hx0, hy0⟩ | ⟨hx0, hy0⟩
    all_goals
      go_enter Tryz.func230, Tryz.ntmps230
      go_wp2_with (first
        | (go_at_call 264; ((with_reducible refine HA.out.mono ?_); rintro e w' ⟨rfl, rfl⟩))
        | (go_at_call 264; ((with_reducible refine HB.out.mono ?_); rintro e w' ⟨rfl, rfl⟩))
        | (go_at_call 263; refine HQ.out.mono ?_; rintro e w1 ⟨rfl, hB1⟩)
        | (go_at_call 81; refine (HC.out _).mono ?_; rintro e w' ⟨rfl, rfl⟩))
      go_ret2
      exact div_post rfl rfl hB1
theorem rdivided_any (n : Nat) (hn : Okn n) (op : Nat) (h1 : 4 ≤ op) (h2 : op ≤ 7) (a b : Nat) (ha : a < 2 ^ n) (hbn : b < 2 ^ n) (w : World) :
    Calls Tryz.prog 230 #[.int .i64 n, .int .i64 op, .int .u64 a, .int .u64 b, .int .i64 (sg n a), .int .i64 (sg n b)] w (DivPost w (divR n op a b)) := by
  obtain ⟨q1, q2, q3, q4⟩ := pow_lt64 hn
  by_cases hb : b = 0
  · subst hb
    rw [divR, if_pos rfl]
    exact rdiv_zero n op _ _ a w
  · have hop : op = 4 ∨ op = 5 ∨ op = 6 ∨ op = 7 := by omega
    rcases hop with rfl | rfl | rfl | rfl
    · rw [divR, if_neg hb, if_neg (by decide), if_neg (by decide), if_neg (by decide)]
      exact rdiv_s n hn a b ha hb hbn w
    · rw [divR, if_neg hb, if_pos rfl]
      exact rdiv_u n a b (by omega) hb (by omega) _ _ w
    · rw [divR, if_neg hb, if_neg (by decide), if_neg (by decide), if_pos rfl]
      exact rrem_s n hn a b ha hb hbn w
    · rw [divR, if_neg hb, if_neg (by decide), if_pos rfl]
      exact rrem_u n a b (by omega) hb (by omega) _ _ w
end Go.Proofs.YtlhakbkdlgejpaaGreatDoor
