/-
  The contract of the document's own Convert. Condition: the words are below 2^64.
-/
import Derived.Test.YtnpamiofhalimaaRInts
import Derived.Laws.FloatArith
import Derived.Laws.Externs
import Derived.Laws.NewFold
set_option linter.unusedSimpArgs false
set_option linter.unusedVariables false
namespace Go.Proofs.Ytnpamiofhalimaa
open Go.RowKit

theorem ext53 (v : Nat) (w : World) : (callFunc 53 #[.float .f32 v]).run Try.prog w = .ok (.value (.int .u32 (v : Int))) w := by
  have := run_callFunc_extern (P := Try.prog) (e := Extern.MathFloatBits.float32bits) Try.func53 (by kernel_rfl) (by kernel_rfl) (by kernel_rfl) (by kernel_rfl) #[.float .f32 v] w
  rw [this]; rfl
theorem ext54 (v : Nat) (w : World) : (callFunc 54 #[.float .f64 v]).run Try.prog w = .ok (.value (.int .u64 (v : Int))) w := by
  have := run_callFunc_extern (P := Try.prog) (e := Extern.MathFloatBits.float64bits) Try.func54 (by kernel_rfl) (by kernel_rfl) (by kernel_rfl) (by kernel_rfl) #[.float .f64 v] w
  rw [this]; rfl

theorem B32_num (v : Nat) (hv : v < 2 * 2147483648) (h : v % 2147483648 ≤ 2139095040) (w : World) : Say 33 #[.float .f32 v] w (.int .u64 (v : Int)) := by
  have hx : ∀ W : World, (callFunc 53 #[.float .f32 v]).run Try.prog W = .ok (.value (.int .u32 (v : Int))) W := fun W => ext53 v W
  have ho : (FloatKind.f32.format.order v v != some .eq) = false := by
    have := order_word fmt_single hv hv h h
    rw [cmp_eq rfl] at this
    show (Ieee.single.order v v != some .eq) = false
    rw [this]; rfl
  have hw : IntKind.u64.wrap (v : Int) = (v : Int) := wrap_nat (by omega)
  clear hv h
  go_enter Try.func33, Try.ntmps33
  go_wp2
  go_ret
  exact ⟨rfl, Below.refl _ _⟩

theorem B64_num (v : Nat) (hv : v < 2 * 9223372036854775808) (h : v % 9223372036854775808 ≤ 9218868437227405312) (w : World) : Say 34 #[.float .f64 v] w (.int .u64 (v : Int)) := by
  have hx : ∀ W : World, (callFunc 54 #[.float .f64 v]).run Try.prog W = .ok (.value (.int .u64 (v : Int))) W := fun W => ext54 v W
  have ho : (FloatKind.f64.format.order v v != some .eq) = false := by
    have := order_word fmt_double hv hv h h
    rw [cmp_eq rfl] at this
    show (Ieee.double.order v v != some .eq) = false
    rw [this]; rfl
  clear hv h
  go_enter Try.func34, Try.ntmps34
  go_wp2
  go_ret
  exact ⟨rfl, Below.refl _ _⟩

theorem rung_le (f : Ieee.Format) (m : Nat) (e : Int) : rungOf f m e ≤ f.infRung := by
  unfold rungOf; split
  · exact Nat.zero_le _
  · exact Nat.min_le_right _ _

theorem word_ok32 (s : Bool) (r : Nat) (h : r ≤ 2139095040) : Ieee.single.word s r < 2 * 2147483648 ∧ Ieee.single.word s r % 2147483648 ≤ 2139095040 := by
  have : Ieee.single.word s r = (if s then 2147483648 + r else r) := rfl
  rw [this]; split <;> omega
theorem word_ok64 (s : Bool) (r : Nat) (h : r ≤ 9218868437227405312) : Ieee.double.word s r < 2 * 9223372036854775808 ∧ Ieee.double.word s r % 9223372036854775808 ≤ 9218868437227405312 := by
  have : Ieee.double.word s r = (if s then 9223372036854775808 + r else r) := rfl
  rw [this]; split <;> omega

theorem fI_32 (n : Int) : floatOfInt .f32 n = Ieee.single.word (decide (n < 0)) (rungOf Ieee.single n.natAbs 0) := nearest_eq Ieee.single (decide (n < 0)) n.natAbs 0
theorem fI_64 (n : Int) : floatOfInt .f64 n = Ieee.double.word (decide (n < 0)) (rungOf Ieee.double n.natAbs 0) := nearest_eq Ieee.double (decide (n < 0)) n.natAbs 0

theorem B32_int (n : Int) (w : World) : Say 33 #[.float .f32 (floatOfInt .f32 n)] w (.int .u64 ((Ieee.single.word (decide (n < 0)) (rungR Ieee.single n.natAbs 0 false) : Nat) : Int)) := by
  rw [rungR_false, fI_32]
  have h := word_ok32 (decide (n < 0)) _ (rung_le Ieee.single n.natAbs 0)
  exact B32_num _ h.1 h.2 w
theorem B64_int (n : Int) (w : World) : Say 34 #[.float .f64 (floatOfInt .f64 n)] w (.int .u64 ((Ieee.double.word (decide (n < 0)) (rungR Ieee.double n.natAbs 0 false) : Nat) : Int)) := by
  rw [rungR_false, fI_64]
  have h := word_ok64 (decide (n < 0)) _ (rung_le Ieee.double n.natAbs 0)
  exact B64_num _ h.1 h.2 w

theorem int_sg {n : Nat} (a : Nat) : ineg n true a = decide (sg n (a % 2 ^ n) < 0) ∧ isize n true a = (sg n (a % 2 ^ n)).natAbs := by
  have hx : a % 2 ^ n < 2 ^ n := Nat.mod_lt _ (Nat.two_pow_pos n)
  have h1 := sg_neg hx
  have h2 := sg_abs hx
  have e1 : ineg n true a = decide (sg n (a % 2 ^ n) < 0) := by
    show decide (2 ^ (n - 1) ≤ a % 2 ^ n) = _
    exact decide_eq_decide.2 h1.symm
  refine ⟨e1, ?_⟩
  unfold isize
  rw [e1, h2]
  by_cases h : 2 ^ (n - 1) ≤ a % 2 ^ n
  · rw [if_pos h, if_pos (decide_eq_true (h1.2 h))]
  · rw [if_neg h, decide_eq_false (fun h3 => h (h1.1 h3)), if_neg (by decide)]

theorem RConvert_bad (b F : Int) (h : (b ≠ 32 ∧ b ≠ 64) ∨ (F ≠ 32 ∧ F ≠ 64)) (s : Bool) (a : Nat) (w : World) : Say 13 #[.int .i64 b, .int .i64 F, .bool s, .int .u64 (a : Int)] w (.tuple #[.int .u64 0, .int .i64 1]) := by
  obtain ⟨e1, h1⟩ : ∃ x : Bool, (b == 32) = x := ⟨_, rfl⟩
  obtain ⟨e2, h2⟩ : ∃ x : Bool, (b == 64) = x := ⟨_, rfl⟩
  obtain ⟨e3, h3⟩ : ∃ x : Bool, (F == 32) = x := ⟨_, rfl⟩
  obtain ⟨e4, h4⟩ : ∃ x : Bool, (F == 64) = x := ⟨_, rfl⟩
  have g1 : (b != 32) = !e1 := by rw [← h1]; rfl
  have g2 : (b != 64) = !e2 := by rw [← h2]; rfl
  have g3 : (F != 32) = !e3 := by rw [← h3]; rfl
  have g4 : (F != 64) = !e4 := by rw [← h4]; rfl
  have hh : (e1 = false ∧ e2 = false) ∨ (e3 = false ∧ e4 = false) := by
    rcases h with ⟨x, y⟩ | ⟨x, y⟩
    · exact .inl ⟨by rw [← h1]; simpa using x, by rw [← h2]; simpa using y⟩
    · exact .inr ⟨by rw [← h3]; simpa using x, by rw [← h4]; simpa using y⟩
  clear h h1 h2 h3 h4
  rcases hh with ⟨rfl, rfl⟩ | ⟨rfl, rfl⟩
  · go_enter Try.func13, Try.ntmps13
    go_wp2
    go_ret2
    exact ⟨rfl, Below.refl _ _⟩
  · cases e1 <;> cases e2 <;>
    · go_enter Try.func13, Try.ntmps13
      go_wp2
      go_ret2
      exact ⟨rfl, Below.refl _ _⟩

theorem RConvert_32_32 (s : Bool) (a : Nat) (ha : a < 18446744073709551616) (w : World) :
    Say 13 #[.int .i64 32, .int .i64 32, .bool s, .int .u64 (a : Int)] w (.tuple #[.int .u64 ((Ieee.single.word (ineg 32 s a) (rungR Ieee.single (isize 32 s a) 0 false) : Nat) : Int), .int .i64 0]) := by
  have hc64 : a % 2 ^ 32 < 18446744073709551616 := Nat.lt_of_le_of_lt (Nat.mod_le _ _) ha
  have HC : ∀ W, Hid (Calls Try.prog 29 #[.int .i64 32, .int .u64 (a : Int)] W fun e w' => e = .returned (.int .u64 ((a % 2 ^ 32 : Nat) : Int)) ∧ W = w') := fun W => hid (Cut_any 32 (.inl rfl) a ha W)
  have hmm : a % 2 ^ 32 % 2 ^ 32 = a % 2 ^ 32 := Nat.mod_mod _ _
  cases s with
  | false =>
    have hB := fun W => B32_int ((a % 2 ^ 32 : Nat) : Int) W
    have hx : Ieee.single.word (decide (((a % 2 ^ 32 : Nat) : Int) < 0)) (rungR Ieee.single ((a % 2 ^ 32 : Nat) : Int).natAbs 0 false) = Ieee.single.word (ineg 32 false a) (rungR Ieee.single (isize 32 false a) 0 false) := by
      rw [decide_eq_false (by omega), Int.natAbs_natCast]; rfl
    rw [hx] at hB
    have HB := fun W => hid (hB W)
    generalize Ieee.single.word (ineg 32 false a) (rungR Ieee.single (isize 32 false a) 0 false) = X at *
    generalize a % 2 ^ 32 = c at *
    clear hx hB hc64 hmm ha
    have hB : Below w.heap.size w w := Below.refl _ _
    go_enter Try.func13, Try.ntmps13
    go_wp2_with (first
      | (go_at_call 29; ((with_reducible refine (HC _).out.mono ?_); rintro e w1 ⟨rfl, rfl⟩))
      | (go_at_call 33; ((with_reducible refine (HB _).out.mono ?_); rintro e w1 ⟨rfl, hb⟩; replace hB := bnext hB hb; clear hb)))
    exact bodyPost_ret (v := .tuple #[.int .u64 (X : Int), .int .i64 0]) (by simp [results, Try.results13, go_sem]) rfl ⟨rfl, hB⟩
  | true =>
    have hS : ∀ W, Calls Try.prog 32 #[.int .i64 32, .int .u64 ((a % 2 ^ 32 : Nat) : Int)] W fun e w' => e = .returned (.int .i64 (sg 32 (a % 2 ^ 32 % 2 ^ 32))) ∧ W = w' := fun W => RSigned_ok 32 (.inl rfl) (a % 2 ^ 32) hc64 W
    have hi := int_sg (n := 32) a
    rw [hmm] at hS
    have hB := fun W => B32_int (sg 32 (a % 2 ^ 32)) W
    rw [← hi.1, ← hi.2] at hB
    have HB := fun W => hid (hB W)
    have HS := fun W => hid (hS W)
    generalize Ieee.single.word (ineg 32 true a) (rungR Ieee.single (isize 32 true a) 0 false) = X at *
    generalize sg 32 (a % 2 ^ 32) = z at *
    generalize a % 2 ^ 32 = c at *
    clear hi hB hS hc64 hmm ha
    have hB : Below w.heap.size w w := Below.refl _ _
    go_enter Try.func13, Try.ntmps13
    go_wp2_with (first
      | (go_at_call 29; ((with_reducible refine (HC _).out.mono ?_); rintro e w1 ⟨rfl, rfl⟩))
      | (go_at_call 32; ((with_reducible refine (HS _).out.mono ?_); rintro e w1 ⟨rfl, rfl⟩))
      | (go_at_call 33; ((with_reducible refine (HB _).out.mono ?_); rintro e w1 ⟨rfl, hb⟩; replace hB := bnext hB hb; clear hb)))
    exact bodyPost_ret (v := .tuple #[.int .u64 (X : Int), .int .i64 0]) (by simp [results, Try.results13, go_sem]) rfl ⟨rfl, hB⟩

theorem RConvert_32_64 (s : Bool) (a : Nat) (ha : a < 18446744073709551616) (w : World) :
    Say 13 #[.int .i64 32, .int .i64 64, .bool s, .int .u64 (a : Int)] w (.tuple #[.int .u64 ((Ieee.double.word (ineg 32 s a) (rungR Ieee.double (isize 32 s a) 0 false) : Nat) : Int), .int .i64 0]) := by
  have hc64 : a % 2 ^ 32 < 18446744073709551616 := Nat.lt_of_le_of_lt (Nat.mod_le _ _) ha
  have HC : ∀ W, Hid (Calls Try.prog 29 #[.int .i64 32, .int .u64 (a : Int)] W fun e w' => e = .returned (.int .u64 ((a % 2 ^ 32 : Nat) : Int)) ∧ W = w') := fun W => hid (Cut_any 32 (.inl rfl) a ha W)
  have hmm : a % 2 ^ 32 % 2 ^ 32 = a % 2 ^ 32 := Nat.mod_mod _ _
  cases s with
  | false =>
    have hB := fun W => B64_int ((a % 2 ^ 32 : Nat) : Int) W
    have hx : Ieee.double.word (decide (((a % 2 ^ 32 : Nat) : Int) < 0)) (rungR Ieee.double ((a % 2 ^ 32 : Nat) : Int).natAbs 0 false) = Ieee.double.word (ineg 32 false a) (rungR Ieee.double (isize 32 false a) 0 false) := by
      rw [decide_eq_false (by omega), Int.natAbs_natCast]; rfl
    rw [hx] at hB
    have HB := fun W => hid (hB W)
    generalize Ieee.double.word (ineg 32 false a) (rungR Ieee.double (isize 32 false a) 0 false) = X at *
    generalize a % 2 ^ 32 = c at *
    clear hx hB hc64 hmm ha
    have hB : Below w.heap.size w w := Below.refl _ _
    go_enter Try.func13, Try.ntmps13
    go_wp2_with (first
      | (go_at_call 29; ((with_reducible refine (HC _).out.mono ?_); rintro e w1 ⟨rfl, rfl⟩))
      | (go_at_call 34; ((with_reducible refine (HB _).out.mono ?_); rintro e w1 ⟨rfl, hb⟩; replace hB := bnext hB hb; clear hb)))
    exact bodyPost_ret (v := .tuple #[.int .u64 (X : Int), .int .i64 0]) (by simp [results, Try.results13, go_sem]) rfl ⟨rfl, hB⟩
  | true =>
    have hS : ∀ W, Calls Try.prog 32 #[.int .i64 32, .int .u64 ((a % 2 ^ 32 : Nat) : Int)] W fun e w' => e = .returned (.int .i64 (sg 32 (a % 2 ^ 32 % 2 ^ 32))) ∧ W = w' := fun W => RSigned_ok 32 (.inl rfl) (a % 2 ^ 32) hc64 W
    have hi := int_sg (n := 32) a
    rw [hmm] at hS
    have hB := fun W => B64_int (sg 32 (a % 2 ^ 32)) W
    rw [← hi.1, ← hi.2] at hB
    have HB := fun W => hid (hB W)
    have HS := fun W => hid (hS W)
    generalize Ieee.double.word (ineg 32 true a) (rungR Ieee.double (isize 32 true a) 0 false) = X at *
    generalize sg 32 (a % 2 ^ 32) = z at *
    generalize a % 2 ^ 32 = c at *
    clear hi hB hS hc64 hmm ha
    have hB : Below w.heap.size w w := Below.refl _ _
    go_enter Try.func13, Try.ntmps13
    go_wp2_with (first
      | (go_at_call 29; ((with_reducible refine (HC _).out.mono ?_); rintro e w1 ⟨rfl, rfl⟩))
      | (go_at_call 32; ((with_reducible refine (HS _).out.mono ?_); rintro e w1 ⟨rfl, rfl⟩))
      | (go_at_call 34; ((with_reducible refine (HB _).out.mono ?_); rintro e w1 ⟨rfl, hb⟩; replace hB := bnext hB hb; clear hb)))
    exact bodyPost_ret (v := .tuple #[.int .u64 (X : Int), .int .i64 0]) (by simp [results, Try.results13, go_sem]) rfl ⟨rfl, hB⟩

theorem RConvert_64_32 (s : Bool) (a : Nat) (ha : a < 18446744073709551616) (w : World) :
    Say 13 #[.int .i64 64, .int .i64 32, .bool s, .int .u64 (a : Int)] w (.tuple #[.int .u64 ((Ieee.single.word (ineg 64 s a) (rungR Ieee.single (isize 64 s a) 0 false) : Nat) : Int), .int .i64 0]) := by
  have hc64 : a % 2 ^ 64 < 18446744073709551616 := Nat.lt_of_le_of_lt (Nat.mod_le _ _) ha
  have HC : ∀ W, Hid (Calls Try.prog 29 #[.int .i64 64, .int .u64 (a : Int)] W fun e w' => e = .returned (.int .u64 ((a % 2 ^ 64 : Nat) : Int)) ∧ W = w') := fun W => hid (Cut_any 64 (.inr rfl) a ha W)
  have hmm : a % 2 ^ 64 % 2 ^ 64 = a % 2 ^ 64 := Nat.mod_mod _ _
  cases s with
  | false =>
    have hB := fun W => B32_int ((a % 2 ^ 64 : Nat) : Int) W
    have hx : Ieee.single.word (decide (((a % 2 ^ 64 : Nat) : Int) < 0)) (rungR Ieee.single ((a % 2 ^ 64 : Nat) : Int).natAbs 0 false) = Ieee.single.word (ineg 64 false a) (rungR Ieee.single (isize 64 false a) 0 false) := by
      rw [decide_eq_false (by omega), Int.natAbs_natCast]; rfl
    rw [hx] at hB
    have HB := fun W => hid (hB W)
    generalize Ieee.single.word (ineg 64 false a) (rungR Ieee.single (isize 64 false a) 0 false) = X at *
    generalize a % 2 ^ 64 = c at *
    clear hx hB hc64 hmm ha
    have hB : Below w.heap.size w w := Below.refl _ _
    go_enter Try.func13, Try.ntmps13
    go_wp2_with (first
      | (go_at_call 29; ((with_reducible refine (HC _).out.mono ?_); rintro e w1 ⟨rfl, rfl⟩))
      | (go_at_call 33; ((with_reducible refine (HB _).out.mono ?_); rintro e w1 ⟨rfl, hb⟩; replace hB := bnext hB hb; clear hb)))
    exact bodyPost_ret (v := .tuple #[.int .u64 (X : Int), .int .i64 0]) (by simp [results, Try.results13, go_sem]) rfl ⟨rfl, hB⟩
  | true =>
    have hS : ∀ W, Calls Try.prog 32 #[.int .i64 64, .int .u64 ((a % 2 ^ 64 : Nat) : Int)] W fun e w' => e = .returned (.int .i64 (sg 64 (a % 2 ^ 64 % 2 ^ 64))) ∧ W = w' := fun W => RSigned_ok 64 (.inr rfl) (a % 2 ^ 64) hc64 W
    have hi := int_sg (n := 64) a
    rw [hmm] at hS
    have hB := fun W => B32_int (sg 64 (a % 2 ^ 64)) W
    rw [← hi.1, ← hi.2] at hB
    have HB := fun W => hid (hB W)
    have HS := fun W => hid (hS W)
    generalize Ieee.single.word (ineg 64 true a) (rungR Ieee.single (isize 64 true a) 0 false) = X at *
    generalize sg 64 (a % 2 ^ 64) = z at *
    generalize a % 2 ^ 64 = c at *
    clear hi hB hS hc64 hmm ha
    have hB : Below w.heap.size w w := Below.refl _ _
    go_enter Try.func13, Try.ntmps13
    go_wp2_with (first
      | (go_at_call 29; ((with_reducible refine (HC _).out.mono ?_); rintro e w1 ⟨rfl, rfl⟩))
      | (go_at_call 32; ((with_reducible refine (HS _).out.mono ?_); rintro e w1 ⟨rfl, rfl⟩))
      | (go_at_call 33; ((with_reducible refine (HB _).out.mono ?_); rintro e w1 ⟨rfl, hb⟩; replace hB := bnext hB hb; clear hb)))
    exact bodyPost_ret (v := .tuple #[.int .u64 (X : Int), .int .i64 0]) (by simp [results, Try.results13, go_sem]) rfl ⟨rfl, hB⟩

theorem RConvert_64_64 (s : Bool) (a : Nat) (ha : a < 18446744073709551616) (w : World) :
    Say 13 #[.int .i64 64, .int .i64 64, .bool s, .int .u64 (a : Int)] w (.tuple #[.int .u64 ((Ieee.double.word (ineg 64 s a) (rungR Ieee.double (isize 64 s a) 0 false) : Nat) : Int), .int .i64 0]) := by
  have hc64 : a % 2 ^ 64 < 18446744073709551616 := Nat.lt_of_le_of_lt (Nat.mod_le _ _) ha
  have HC : ∀ W, Hid (Calls Try.prog 29 #[.int .i64 64, .int .u64 (a : Int)] W fun e w' => e = .returned (.int .u64 ((a % 2 ^ 64 : Nat) : Int)) ∧ W = w') := fun W => hid (Cut_any 64 (.inr rfl) a ha W)
  have hmm : a % 2 ^ 64 % 2 ^ 64 = a % 2 ^ 64 := Nat.mod_mod _ _
  cases s with
  | false =>
    have hB := fun W => B64_int ((a % 2 ^ 64 : Nat) : Int) W
    have hx : Ieee.double.word (decide (((a % 2 ^ 64 : Nat) : Int) < 0)) (rungR Ieee.double ((a % 2 ^ 64 : Nat) : Int).natAbs 0 false) = Ieee.double.word (ineg 64 false a) (rungR Ieee.double (isize 64 false a) 0 false) := by
      rw [decide_eq_false (by omega), Int.natAbs_natCast]; rfl
    rw [hx] at hB
    have HB := fun W => hid (hB W)
    generalize Ieee.double.word (ineg 64 false a) (rungR Ieee.double (isize 64 false a) 0 false) = X at *
    generalize a % 2 ^ 64 = c at *
    clear hx hB hc64 hmm ha
    have hB : Below w.heap.size w w := Below.refl _ _
    go_enter Try.func13, Try.ntmps13
    go_wp2_with (first
      | (go_at_call 29; ((with_reducible refine (HC _).out.mono ?_); rintro e w1 ⟨rfl, rfl⟩))
      | (go_at_call 34; ((with_reducible refine (HB _).out.mono ?_); rintro e w1 ⟨rfl, hb⟩; replace hB := bnext hB hb; clear hb)))
    exact bodyPost_ret (v := .tuple #[.int .u64 (X : Int), .int .i64 0]) (by simp [results, Try.results13, go_sem]) rfl ⟨rfl, hB⟩
  | true =>
    have hS : ∀ W, Calls Try.prog 32 #[.int .i64 64, .int .u64 ((a % 2 ^ 64 : Nat) : Int)] W fun e w' => e = .returned (.int .i64 (sg 64 (a % 2 ^ 64 % 2 ^ 64))) ∧ W = w' := fun W => RSigned_ok 64 (.inr rfl) (a % 2 ^ 64) hc64 W
    have hi := int_sg (n := 64) a
    rw [hmm] at hS
    have hB := fun W => B64_int (sg 64 (a % 2 ^ 64)) W
    rw [← hi.1, ← hi.2] at hB
    have HB := fun W => hid (hB W)
    have HS := fun W => hid (hS W)
    generalize Ieee.double.word (ineg 64 true a) (rungR Ieee.double (isize 64 true a) 0 false) = X at *
    generalize sg 64 (a % 2 ^ 64) = z at *
    generalize a % 2 ^ 64 = c at *
    clear hi hB hS hc64 hmm ha
    have hB : Below w.heap.size w w := Below.refl _ _
    go_enter Try.func13, Try.ntmps13
    go_wp2_with (first
      | (go_at_call 29; ((with_reducible refine (HC _).out.mono ?_); rintro e w1 ⟨rfl, rfl⟩))
      | (go_at_call 32; ((with_reducible refine (HS _).out.mono ?_); rintro e w1 ⟨rfl, rfl⟩))
      | (go_at_call 34; ((with_reducible refine (HB _).out.mono ?_); rintro e w1 ⟨rfl, hb⟩; replace hB := bnext hB hb; clear hb)))
    exact bodyPost_ret (v := .tuple #[.int .u64 (X : Int), .int .i64 0]) (by simp [results, Try.results13, go_sem]) rfl ⟨rfl, hB⟩

end Go.Proofs.Ytnpamiofhalimaa
