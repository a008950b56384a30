/-
  The contract of the reference's Rel. Condition: the words are below 2^64; the operation is one of the six.
-/
import Derived.Test.YtffceodbadedjaaRKind
import Derived.Test.YtffceodbadedjaaApi
set_option linter.unusedSimpArgs false
set_option linter.unusedVariables false
namespace Go.Proofs.Ytffceodbadedjaa
open Go.RowKit

theorem relI_lt {x y : Int} (op : Nat) (h : x < y) : relI op x y = if op = 1 then false else if op = 2 then true else if op = 3 then true else if op = 4 then false else if op = 5 then true else false := by
  have e1 : (x == y) = false := by rw [beq_eq_false_iff_ne]; omega
  have e2 : (x != y) = true := by rw [bne, e1]; rfl
  have e3 : decide (x < y) = true := decide_eq_true h
  have e4 : decide (y < x) = false := decide_eq_false (by omega)
  have e5 : decide (x ≤ y) = true := decide_eq_true (by omega)
  have e6 : decide (y ≤ x) = false := decide_eq_false (by omega)
  unfold relI
  rw [e1, e2, e3, e4, e5, e6]

theorem relI_gt {x y : Int} (op : Nat) (h : y < x) : relI op x y = if op = 1 then false else if op = 2 then true else if op = 3 then false else if op = 4 then true else if op = 5 then false else true := by
  have e1 : (x == y) = false := by rw [beq_eq_false_iff_ne]; omega
  have e2 : (x != y) = true := by rw [bne, e1]; rfl
  have e3 : decide (x < y) = false := decide_eq_false (by omega)
  have e4 : decide (y < x) = true := decide_eq_true h
  have e5 : decide (x ≤ y) = false := decide_eq_false (by omega)
  have e6 : decide (y ≤ x) = true := decide_eq_true (by omega)
  unfold relI
  rw [e1, e2, e3, e4, e5, e6]

theorem relI_eq {x y : Int} (op : Nat) (h : x = y) : relI op x y = if op = 1 then true else if op = 2 then false else if op = 3 then false else if op = 4 then false else if op = 5 then true else true := by
  subst h
  have e1 : (x == x) = true := by rw [beq_iff_eq]
  have e2 : (x != x) = false := by rw [bne, e1]; rfl
  have e3 : decide (x < x) = false := decide_eq_false (by omega)
  have e5 : decide (x ≤ x) = true := decide_eq_true (by omega)
  unfold relI
  rw [e1, e2, e3, e5]

theorem RRel_no (b : Int) (h1 : b ≠ 32) (h2 : b ≠ 64) (op : Int) (x y : Nat) (w : World) : Calls Try.prog 26 #[.int .i64 b, .int .i64 op, .int .u64 x, .int .u64 y] w fun e w' => e = .returned (.tuple #[.bool false, .int .i64 1]) ∧ w = w' := by
  have e1 : (b != 32) = true := by simpa using h1
  have e2 : (b != 64) = true := by simpa using h2
  clear h1 h2
  go_enter Try.func26, Try.ntmps26
  go_wp2
  go_ret2
  exact ⟨rfl, rfl⟩

theorem RRel_32_bad (op : Int) (hop : op < 1 ∨ 6 < op) (x y : Nat) (w : World) : Calls Try.prog 26 #[.int .i64 32, .int .i64 op, .int .u64 x, .int .u64 y] w fun e w' => e = .returned (.tuple #[.bool false, .int .i64 1]) ∧ w = w' := by
  rcases hop with h | h
  · have o1 : decide (op < 1) = true := by simp; omega
    clear h
    go_enter Try.func26, Try.ntmps26
    go_wp2
    go_ret2
    exact ⟨rfl, rfl⟩
  · have o1 : decide (op < 1) = false := by simp; omega
    have o2 : decide (6 < op) = true := by simp; omega
    clear h
    go_enter Try.func26, Try.ntmps26
    go_wp2
    go_ret2
    exact ⟨rfl, rfl⟩

set_option maxRecDepth 20000 in
set_option maxHeartbeats 6400000 in
theorem RRel_32 (op : Nat) (hop : op = 1 ∨ op = 2 ∨ op = 3 ∨ op = 4 ∨ op = 5 ∨ op = 6) (a b : Nat) (ha : a < 18446744073709551616) (hb : b < 18446744073709551616) (w : World) :
    Calls Try.prog 26 #[.int .i64 32, .int .i64 op, .int .u64 a, .int .u64 b] w fun e w' => e = .returned (.tuple #[.bool (relW 2147483648 2139095040 op (a % 4294967296) (b % 4294967296)), .int .i64 0]) ∧ Below w.heap.size w w' := by
  have HVA : ∀ W, Hid (Calls Try.prog 39 #[.int .i64 32, .int .u64 a] W (VPost 2147483648 2139095040 (a % 4294967296) W)) := fun W => hid (value_32 a W)
  have HVB : ∀ W, Hid (Calls Try.prog 39 #[.int .i64 32, .int .u64 b] W (VPost 2147483648 2139095040 (b % 4294967296) W)) := fun W => hid (value_32 b W)
  have hc : a % 4294967296 < 2 * 2147483648 := by omega
  have hd : b % 4294967296 < 2 * 2147483648 := by omega
  have hrw : relW 2147483648 2139095040 op (a % 4294967296) (b % 4294967296) = if 2139095040 < a % 4294967296 % 2147483648 ∨ 2139095040 < b % 4294967296 % 2147483648 then op == 2 else relI op (rankOf 2147483648 (a % 4294967296)) (rankOf 2147483648 (b % 4294967296)) := rfl
  rw [hrw]
  clear hrw
  generalize a % 4294967296 = c at *
  generalize b % 4294967296 = d at *
  have HO := hid (fun v u (hv : ValOf 2147483648 2139095040 c v) (hu : ValOf 2147483648 2139095040 d u) => order_val hc hd hv hu)
  clear hc hd ha hb
  -- the four ways in which two values stand
  have hcase : ∃ O : Option Ordering, (∀ v u, ValOf 2147483648 2139095040 c v → ValOf 2147483648 2139095040 d u → Ieee.double.order v u = O) ∧
      ((O = none ∧ (2139095040 < c % 2147483648 ∨ 2139095040 < d % 2147483648)) ∨ (O = some .lt ∧ ¬ (2139095040 < c % 2147483648 ∨ 2139095040 < d % 2147483648) ∧ rankOf 2147483648 c < rankOf 2147483648 d) ∨ (O = some .eq ∧ ¬ (2139095040 < c % 2147483648 ∨ 2139095040 < d % 2147483648) ∧ rankOf 2147483648 c = rankOf 2147483648 d) ∨ (O = some .gt ∧ ¬ (2139095040 < c % 2147483648 ∨ 2139095040 < d % 2147483648) ∧ rankOf 2147483648 d < rankOf 2147483648 c)) := by
    by_cases hn : 2139095040 < c % 2147483648 ∨ 2139095040 < d % 2147483648
    · exact ⟨none, fun v u hv hu => by rw [HO.out v u hv hu, if_pos hn], .inl ⟨rfl, hn⟩⟩
    · rcases Int.lt_trichotomy (rankOf 2147483648 c) (rankOf 2147483648 d) with h | h | h
      · exact ⟨some .lt, fun v u hv hu => by rw [HO.out v u hv hu, if_neg hn, cmp_lt h], .inr (.inl ⟨rfl, hn, h⟩)⟩
      · exact ⟨some .eq, fun v u hv hu => by rw [HO.out v u hv hu, if_neg hn, cmp_eq h], .inr (.inr (.inl ⟨rfl, hn, h⟩))⟩
      · exact ⟨some .gt, fun v u hv hu => by rw [HO.out v u hv hu, if_neg hn, cmp_gt h], .inr (.inr (.inr ⟨rfl, hn, h⟩))⟩
  obtain ⟨O, hO, h4⟩ := hcase
  have HOO := hid hO
  clear hO HO
  have hres : (if 2139095040 < c % 2147483648 ∨ 2139095040 < d % 2147483648 then op == 2 else relI op (rankOf 2147483648 c) (rankOf 2147483648 d)) =
      (if op = 1 then O == some .eq else if op = 2 then O != some .eq else if op = 3 then O == some .lt else if op = 4 then O == some .gt else if op = 5 then (O == some .lt || O == some .eq) else (O == some .gt || O == some .eq)) := by
    rcases h4 with ⟨rfl, h⟩ | ⟨rfl, hn, h⟩ | ⟨rfl, hn, h⟩ | ⟨rfl, hn, h⟩
    · rw [if_pos h]; rcases hop with rfl | rfl | rfl | rfl | rfl | rfl <;> rfl
    · rw [if_neg hn, relI_lt op h]; rcases hop with rfl | rfl | rfl | rfl | rfl | rfl <;> rfl
    · rw [if_neg hn, relI_eq op h]; rcases hop with rfl | rfl | rfl | rfl | rfl | rfl <;> rfl
    · rw [if_neg hn, relI_gt op h]; rcases hop with rfl | rfl | rfl | rfl | rfl | rfl <;> rfl
  rw [hres]
  clear hres h4
  rcases hop with rfl | rfl | rfl | rfl | rfl | rfl
  all_goals
    go_enter Try.func26, Try.ntmps26
    go_wp2_with (first
      | (go_at_call 39; ((with_reducible refine (HVA _).out.mono ?_); rintro e w1 ⟨v, rfl, hv, hb1⟩))
      | (go_at_call 39; ((with_reducible refine (HVB _).out.mono ?_); rintro e w2 ⟨u, rfl, hu, hb2⟩; have ho : FloatKind.f64.format.order v u = O := HOO.out v u hv hu)))
    go_ret2
    exact ⟨rfl, balloc (bnext hb1 hb2) _⟩

theorem RRel_64_bad (op : Int) (hop : op < 1 ∨ 6 < op) (x y : Nat) (w : World) : Calls Try.prog 26 #[.int .i64 64, .int .i64 op, .int .u64 x, .int .u64 y] w fun e w' => e = .returned (.tuple #[.bool false, .int .i64 1]) ∧ w = w' := by
  rcases hop with h | h
  · have o1 : decide (op < 1) = true := by simp; omega
    clear h
    go_enter Try.func26, Try.ntmps26
    go_wp2
    go_ret2
    exact ⟨rfl, rfl⟩
  · have o1 : decide (op < 1) = false := by simp; omega
    have o2 : decide (6 < op) = true := by simp; omega
    clear h
    go_enter Try.func26, Try.ntmps26
    go_wp2
    go_ret2
    exact ⟨rfl, rfl⟩

set_option maxRecDepth 20000 in
set_option maxHeartbeats 6400000 in
theorem RRel_64 (op : Nat) (hop : op = 1 ∨ op = 2 ∨ op = 3 ∨ op = 4 ∨ op = 5 ∨ op = 6) (a b : Nat) (ha : a < 18446744073709551616) (hb : b < 18446744073709551616) (w : World) :
    Calls Try.prog 26 #[.int .i64 64, .int .i64 op, .int .u64 a, .int .u64 b] w fun e w' => e = .returned (.tuple #[.bool (relW 9223372036854775808 9218868437227405312 op (a % 18446744073709551616) (b % 18446744073709551616)), .int .i64 0]) ∧ Below w.heap.size w w' := by
  have HVA : ∀ W, Hid (Calls Try.prog 39 #[.int .i64 64, .int .u64 a] W (VPost 9223372036854775808 9218868437227405312 (a % 18446744073709551616) W)) := fun W => hid (by rw [Nat.mod_eq_of_lt ha]; exact value_64 a ha W)
  have HVB : ∀ W, Hid (Calls Try.prog 39 #[.int .i64 64, .int .u64 b] W (VPost 9223372036854775808 9218868437227405312 (b % 18446744073709551616) W)) := fun W => hid (by rw [Nat.mod_eq_of_lt hb]; exact value_64 b hb W)
  have hc : a % 18446744073709551616 < 2 * 9223372036854775808 := by omega
  have hd : b % 18446744073709551616 < 2 * 9223372036854775808 := by omega
  have hrw : relW 9223372036854775808 9218868437227405312 op (a % 18446744073709551616) (b % 18446744073709551616) = if 9218868437227405312 < a % 18446744073709551616 % 9223372036854775808 ∨ 9218868437227405312 < b % 18446744073709551616 % 9223372036854775808 then op == 2 else relI op (rankOf 9223372036854775808 (a % 18446744073709551616)) (rankOf 9223372036854775808 (b % 18446744073709551616)) := rfl
  rw [hrw]
  clear hrw
  generalize a % 18446744073709551616 = c at *
  generalize b % 18446744073709551616 = d at *
  have HO := hid (fun v u (hv : ValOf 9223372036854775808 9218868437227405312 c v) (hu : ValOf 9223372036854775808 9218868437227405312 d u) => order_val hc hd hv hu)
  clear hc hd ha hb
  -- the four ways in which two values stand
  have hcase : ∃ O : Option Ordering, (∀ v u, ValOf 9223372036854775808 9218868437227405312 c v → ValOf 9223372036854775808 9218868437227405312 d u → Ieee.double.order v u = O) ∧
      ((O = none ∧ (9218868437227405312 < c % 9223372036854775808 ∨ 9218868437227405312 < d % 9223372036854775808)) ∨ (O = some .lt ∧ ¬ (9218868437227405312 < c % 9223372036854775808 ∨ 9218868437227405312 < d % 9223372036854775808) ∧ rankOf 9223372036854775808 c < rankOf 9223372036854775808 d) ∨ (O = some .eq ∧ ¬ (9218868437227405312 < c % 9223372036854775808 ∨ 9218868437227405312 < d % 9223372036854775808) ∧ rankOf 9223372036854775808 c = rankOf 9223372036854775808 d) ∨ (O = some .gt ∧ ¬ (9218868437227405312 < c % 9223372036854775808 ∨ 9218868437227405312 < d % 9223372036854775808) ∧ rankOf 9223372036854775808 d < rankOf 9223372036854775808 c)) := by
    by_cases hn : 9218868437227405312 < c % 9223372036854775808 ∨ 9218868437227405312 < d % 9223372036854775808
    · exact ⟨none, fun v u hv hu => by rw [HO.out v u hv hu, if_pos hn], .inl ⟨rfl, hn⟩⟩
    · rcases Int.lt_trichotomy (rankOf 9223372036854775808 c) (rankOf 9223372036854775808 d) with h | h | h
      · exact ⟨some .lt, fun v u hv hu => by rw [HO.out v u hv hu, if_neg hn, cmp_lt h], .inr (.inl ⟨rfl, hn, h⟩)⟩
      · exact ⟨some .eq, fun v u hv hu => by rw [HO.out v u hv hu, if_neg hn, cmp_eq h], .inr (.inr (.inl ⟨rfl, hn, h⟩))⟩
      · exact ⟨some .gt, fun v u hv hu => by rw [HO.out v u hv hu, if_neg hn, cmp_gt h], .inr (.inr (.inr ⟨rfl, hn, h⟩))⟩
  obtain ⟨O, hO, h4⟩ := hcase
  have HOO := hid hO
  clear hO HO
  have hres : (if 9218868437227405312 < c % 9223372036854775808 ∨ 9218868437227405312 < d % 9223372036854775808 then op == 2 else relI op (rankOf 9223372036854775808 c) (rankOf 9223372036854775808 d)) =
      (if op = 1 then O == some .eq else if op = 2 then O != some .eq else if op = 3 then O == some .lt else if op = 4 then O == some .gt else if op = 5 then (O == some .lt || O == some .eq) else (O == some .gt || O == some .eq)) := by
    rcases h4 with ⟨rfl, h⟩ | ⟨rfl, hn, h⟩ | ⟨rfl, hn, h⟩ | ⟨rfl, hn, h⟩
    · rw [if_pos h]; rcases hop with rfl | rfl | rfl | rfl | rfl | rfl <;> rfl
    · rw [if_neg hn, relI_lt op h]; rcases hop with rfl | rfl | rfl | rfl | rfl | rfl <;> rfl
    · rw [if_neg hn, relI_eq op h]; rcases hop with rfl | rfl | rfl | rfl | rfl | rfl <;> rfl
    · rw [if_neg hn, relI_gt op h]; rcases hop with rfl | rfl | rfl | rfl | rfl | rfl <;> rfl
  rw [hres]
  clear hres h4
  rcases hop with rfl | rfl | rfl | rfl | rfl | rfl
  all_goals
    go_enter Try.func26, Try.ntmps26
    go_wp2_with (first
      | (go_at_call 39; ((with_reducible refine (HVA _).out.mono ?_); rintro e w1 ⟨v, rfl, hv, hb1⟩))
      | (go_at_call 39; ((with_reducible refine (HVB _).out.mono ?_); rintro e w2 ⟨u, rfl, hu, hb2⟩; have ho : FloatKind.f64.format.order v u = O := HOO.out v u hv hu)))
    go_ret2
    exact ⟨rfl, balloc (bnext hb1 hb2) _⟩

end Go.Proofs.Ytffceodbadedjaa
