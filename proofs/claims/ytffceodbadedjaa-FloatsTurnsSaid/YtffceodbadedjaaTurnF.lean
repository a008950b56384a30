/-
  What the law on turning calls, and what comes of it, in both formats.
-/
import Derived.Test.YtffceodbadedjaaTurnB
import Derived.Test.YtffceodbadedjaaTurnSq
import Derived.Test.YtffceodbadedjaaFUn3
import Derived.Test.YtffceodbadedjaaFUn
import Derived.Test.YtffceodbadedjaaAwake
set_option linter.unusedSimpArgs false
set_option linter.unusedVariables false
namespace Go.Proofs.Ytffceodbadedjaa
open Go.RowKit Ieee

def SB2 (F op : Int) (x y r : Nat) (W : World) : Prop := Calls Try.prog 17 #[.int .i64 F, .int .i64 op, .int .u64 x, .int .u64 y] W fun e w' => e = .returned (.tuple #[.int .u64 (r : Int), .int .i64 0]) ∧ Below W.heap.size W w'
def SU2 (F op : Int) (x r : Nat) (W : World) : Prop := Calls Try.prog 23 #[.int .i64 F, .int .i64 op, .int .u64 x] W fun e w' => e = .returned (.tuple #[.int .u64 (r : Int), .int .i64 0]) ∧ Below W.heap.size W w'
def SR2 (F op : Int) (x y : Nat) (r : Bool) (W : World) : Prop := Calls Try.prog 25 #[.int .i64 F, .int .i64 op, .int .u64 x, .int .u64 y] W fun e w' => e = .returned (.tuple #[.bool r, .int .i64 0]) ∧ Below W.heap.size W w'
def SO2 (F : Int) (k r : Nat) (W : World) : Prop := Calls Try.prog 27 #[.int .i64 F, .bool false, .int .u64 k, .int .i64 0, .bool false] W fun e w' => e = .returned (.tuple #[.int .u64 (r : Int), .int .i64 0]) ∧ Below W.heap.size W w'
def SK2 (F : Int) (x : Nat) (r : Int) (W : World) : Prop := Calls Try.prog 19 #[.int .i64 F, .int .u64 x] W fun e w' => e = .returned (.int .i64 r) ∧ Below W.heap.size W w'
/-- All that the law's calls answer. -/
def Facts (F : Int) (a b k : Nat) : Prop := ∃ (s p x f g m w B : Nat) (c : Bool) (kd : Int), (kd == 4) = !c ∧
  (∀ W, SB2 F 1 a b s W) ∧ (∀ W, SB2 F 1 b a s W) ∧ (∀ W, SB2 F 3 a b p W) ∧ (∀ W, SB2 F 3 b a p W) ∧ (∀ W, SU2 F 2 b x W) ∧ (∀ W, SU2 F 2 x B W) ∧ (∀ W, SB2 F 2 a x s W) ∧ (∀ W, SO2 F k f W) ∧
  (∀ W, SB2 F 3 f f g W) ∧ (∀ W, SU2 F 3 g f W) ∧ (∀ W, SU2 F 5 a m W) ∧ (∀ W, SU2 F 4 a w W) ∧ (∀ W, SR2 F 5 m a c W) ∧ (∀ W, SR2 F 5 a w c W) ∧ (∀ W, SK2 F a kd W) ∧ (∀ W, SB2 F 7 b b B W)

set_option maxHeartbeats 1000000 in
theorem facts_32 (a b k : Nat) (ha : a < 18446744073709551616) (hb : b < 18446744073709551616) (hk : k < 4096) : Facts 32 a b k := by
  obtain ⟨A, hA⟩ : ∃ A, A = a % 4294967296 := ⟨_, rfl⟩
  obtain ⟨B, hB⟩ : ∃ B, B = b % 4294967296 := ⟨_, rfl⟩
  have hA2 : A < 2 * 2147483648 := by omega
  have hB2 : B < 2 * 2147483648 := by omega
  obtain ⟨x, hx⟩ : ∃ x, x = unW single 2147483648 2139095040 2143289344 2 B := ⟨_, rfl⟩
  obtain ⟨t1, t2, t3⟩ := un2_twice (f := single) (INF := 2139095040) 2143289344 hB2
  rw [← hx] at t1 t2 t3
  obtain ⟨r1, r2, r3, r4⟩ := whole_rel fmt_single 2143289344 (by decide) (by decide) (by decide) (by decide) hA2
  obtain ⟨m, hm⟩ : ∃ m, m = unW single 2147483648 2139095040 2143289344 5 A := ⟨_, rfl⟩
  obtain ⟨w, hw⟩ : ∃ w, w = unW single 2147483648 2139095040 2143289344 4 A := ⟨_, rfl⟩
  rw [← hm] at r1 r3
  rw [← hw] at r2 r4
  have hsq : sq32 k = true := by
    have := sq_32 (k / 64) (by omega) (k % 64) (Nat.mod_lt _ (by decide))
    rw [Nat.div_add_mod] at this
    exact this
  obtain ⟨F, hF⟩ : ∃ F, F = single.word false (rungR single k 0 false) := ⟨_, rfl⟩
  obtain ⟨g, hg⟩ : ∃ g, g = binW single 38 2147483648 2139095040 2143289344 23 (-149) 3 (F % 4294967296) (F % 4294967296) := ⟨_, rfl⟩
  unfold sq32 at hsq
  rw [← hF] at hsq
  simp only [] at hsq
  rw [← hg] at hsq
  simp only [Bool.and_eq_true, decide_eq_true_eq, beq_iff_eq] at hsq
  obtain ⟨⟨q1, q2⟩, q3⟩ := hsq
  have mA : A % 4294967296 = A := Nat.mod_eq_of_lt (by omega)
  have mx : x % 4294967296 = x := Nat.mod_eq_of_lt (by omega)
  have mm : m % 4294967296 = m := Nat.mod_eq_of_lt (by omega)
  have mw : w % 4294967296 = w := Nat.mod_eq_of_lt (by omega)
  have e2 : binW single 38 2147483648 2139095040 2143289344 23 (-149) 2 A x = binW single 38 2147483648 2139095040 2143289344 23 (-149) 1 A B := by rw [t2]; exact bin2_opp 38 2143289344 hB2
  refine ⟨binW single 38 2147483648 2139095040 2143289344 23 (-149) 1 A B, binW single 38 2147483648 2139095040 2143289344 23 (-149) 3 A B, x, F, g, m, w, B, !(kindOf 2139095040 (A % 2147483648) == 4), (kindOf 2139095040 (A % 2147483648) : Nat), ?_, fun W => ?_, fun W => ?_, fun W => ?_, fun W => ?_, fun W => ?_, fun W => ?_, fun W => ?_, fun W => ?_, fun W => ?_, fun W => ?_, fun W => ?_, fun W => ?_, fun W => ?_, fun W => ?_, fun W => ?_, fun W => ?_⟩
  · rw [Bool.not_not]
    rw [Bool.eq_iff_iff, beq_iff_eq, beq_iff_eq]
    omega
  · have := Bin_32_1 a b ha hb W
    rw [← hA, ← hB] at this
    exact this
  · have := Bin_32_1 b a hb ha W
    rw [← hA, ← hB, bin1_turn fmt_single 38 2143289344 (by decide) hB2 hA2] at this
    exact this
  · have := Bin_32_3 a b ha hb W
    rw [← hA, ← hB] at this
    exact this
  · have := Bin_32_3 b a hb ha W
    rw [← hA, ← hB, bin3_turn] at this
    exact this
  · have := Un_32_2 b hb W
    rw [← hB, ← hx] at this
    exact this
  · have := Un_32_2 x (by omega) W
    rw [mx, t1] at this
    exact this
  · have := Bin_32_2 a x ha (by omega) W
    rw [← hA, mx, e2] at this
    exact this
  · have := Round_32 false k (by omega) 0 (by decide) (by decide) false W
    rw [if_neg (by simp), ← hF] at this
    exact this
  · have := Bin_32_3 F F (by omega) (by omega) W
    rw [← hg] at this
    exact this
  · have := Un_32_3 g (by omega) W
    rw [q2] at this
    exact this
  · have := Un_32_5 a ha W
    rw [← hA, ← hm] at this
    exact this
  · have := Un_32_4 a ha W
    rw [← hA, ← hw] at this
    exact this
  · have := Rel_32 5 (by decide) m a (by omega) ha W
    rw [← hA, mm, r1] at this
    exact this
  · have := Rel_32 5 (by decide) a w ha (by omega) W
    rw [← hA, mw, r2] at this
    exact this
  · have := Kind_32 a ha W
    rw [← hA] at this
    exact this
  · have := Bin_32_7 b b hb hb W
    rw [← hB, bin7_self 38 2143289344 hB2] at this
    exact this
set_option maxHeartbeats 1000000 in
theorem facts_64 (a b k : Nat) (ha : a < 18446744073709551616) (hb : b < 18446744073709551616) (hk : k < 4096) : Facts 64 a b k := by
  obtain ⟨A, hA⟩ : ∃ A, A = a % 18446744073709551616 := ⟨_, rfl⟩
  obtain ⟨B, hB⟩ : ∃ B, B = b % 18446744073709551616 := ⟨_, rfl⟩
  have hA2 : A < 2 * 9223372036854775808 := by omega
  have hB2 : B < 2 * 9223372036854775808 := by omega
  obtain ⟨x, hx⟩ : ∃ x, x = unW double 9223372036854775808 9218868437227405312 9221120237041090560 2 B := ⟨_, rfl⟩
  obtain ⟨t1, t2, t3⟩ := un2_twice (f := double) (INF := 9218868437227405312) 9221120237041090560 hB2
  rw [← hx] at t1 t2 t3
  obtain ⟨r1, r2, r3, r4⟩ := whole_rel fmt_double 9221120237041090560 (by decide) (by decide) (by decide) (by decide) hA2
  obtain ⟨m, hm⟩ : ∃ m, m = unW double 9223372036854775808 9218868437227405312 9221120237041090560 5 A := ⟨_, rfl⟩
  obtain ⟨w, hw⟩ : ∃ w, w = unW double 9223372036854775808 9218868437227405312 9221120237041090560 4 A := ⟨_, rfl⟩
  rw [← hm] at r1 r3
  rw [← hw] at r2 r4
  have hsq : sq64 k = true := by
    have := sq_64 (k / 64) (by omega) (k % 64) (Nat.mod_lt _ (by decide))
    rw [Nat.div_add_mod] at this
    exact this
  obtain ⟨F, hF⟩ : ∃ F, F = double.word false (rungR double k 0 false) := ⟨_, rfl⟩
  obtain ⟨g, hg⟩ : ∃ g, g = binW double 9 9223372036854775808 9218868437227405312 9221120237041090560 52 (-1074) 3 (F % 18446744073709551616) (F % 18446744073709551616) := ⟨_, rfl⟩
  unfold sq64 at hsq
  rw [← hF] at hsq
  simp only [] at hsq
  rw [← hg] at hsq
  simp only [Bool.and_eq_true, decide_eq_true_eq, beq_iff_eq] at hsq
  obtain ⟨⟨q1, q2⟩, q3⟩ := hsq
  have mA : A % 18446744073709551616 = A := Nat.mod_eq_of_lt (by omega)
  have mx : x % 18446744073709551616 = x := Nat.mod_eq_of_lt (by omega)
  have mm : m % 18446744073709551616 = m := Nat.mod_eq_of_lt (by omega)
  have mw : w % 18446744073709551616 = w := Nat.mod_eq_of_lt (by omega)
  have e2 : binW double 9 9223372036854775808 9218868437227405312 9221120237041090560 52 (-1074) 2 A x = binW double 9 9223372036854775808 9218868437227405312 9221120237041090560 52 (-1074) 1 A B := by rw [t2]; exact bin2_opp 9 9221120237041090560 hB2
  refine ⟨binW double 9 9223372036854775808 9218868437227405312 9221120237041090560 52 (-1074) 1 A B, binW double 9 9223372036854775808 9218868437227405312 9221120237041090560 52 (-1074) 3 A B, x, F, g, m, w, B, !(kindOf 9218868437227405312 (A % 9223372036854775808) == 4), (kindOf 9218868437227405312 (A % 9223372036854775808) : Nat), ?_, fun W => ?_, fun W => ?_, fun W => ?_, fun W => ?_, fun W => ?_, fun W => ?_, fun W => ?_, fun W => ?_, fun W => ?_, fun W => ?_, fun W => ?_, fun W => ?_, fun W => ?_, fun W => ?_, fun W => ?_, fun W => ?_⟩
  · rw [Bool.not_not]
    rw [Bool.eq_iff_iff, beq_iff_eq, beq_iff_eq]
    omega
  · have := Bin_64_1 a b ha hb W
    rw [← hA, ← hB] at this
    exact this
  · have := Bin_64_1 b a hb ha W
    rw [← hA, ← hB, bin1_turn fmt_double 9 9221120237041090560 (by decide) hB2 hA2] at this
    exact this
  · have := Bin_64_3 a b ha hb W
    rw [← hA, ← hB] at this
    exact this
  · have := Bin_64_3 b a hb ha W
    rw [← hA, ← hB, bin3_turn] at this
    exact this
  · have := Un_64_2 b hb W
    rw [← hB, ← hx] at this
    exact this
  · have := Un_64_2 x (by omega) W
    rw [mx, t1] at this
    exact this
  · have := Bin_64_2 a x ha (by omega) W
    rw [← hA, mx, e2] at this
    exact this
  · have := Round_64 false k (by omega) 0 (by decide) (by decide) false W
    rw [if_neg (by simp), ← hF] at this
    exact this
  · have := Bin_64_3 F F (by omega) (by omega) W
    rw [← hg] at this
    exact this
  · have := Un_64_3 g (by omega) W
    rw [q2] at this
    exact this
  · have := Un_64_5 a ha W
    rw [← hA, ← hm] at this
    exact this
  · have := Un_64_4 a ha W
    rw [← hA, ← hw] at this
    exact this
  · have := Rel_64 5 (by decide) m a (by omega) ha W
    rw [← hA, mm, r1] at this
    exact this
  · have := Rel_64 5 (by decide) a w ha (by omega) W
    rw [← hA, mw, r2] at this
    exact this
  · have := Kind_64 a ha W
    rw [← hA] at this
    exact this
  · have := Bin_64_7 b b hb hb W
    rw [← hB, bin7_self 9 9221120237041090560 hB2] at this
    exact this
end Go.Proofs.Ytffceodbadedjaa
