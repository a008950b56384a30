/-
  The contracts of conv's small functions. Condition: the integers are of 32 or 64 bits; the words are below 2^64.
-/
import Derived.Test.YtnpamiofhalimaaApi
import Derived.Deep.DeepCutAuto
set_option linter.unusedSimpArgs false
set_option linter.unusedVariables false
namespace Go.Proofs.Ytnpamiofhalimaa
open Go.RowKit

/-- How far from 0 the numbers of n bits lie. -/
def bnd (n : Nat) (s neg : Bool) : Nat := if s then (if neg then 2 ^ (n - 1) else 2 ^ (n - 1) - 1) else (if neg then 0 else 2 ^ n - 1)

theorem integerOf_no (b : Int) (h1 : b ≠ 32) (h2 : b ≠ 64) (s : Bool) (w : World) : Calls Try.prog 21 #[.int .i64 b, .bool s] w fun e w' => e = .returned (.agg #[.int .i64 0, .bool false]) ∧ Below w.heap.size w w' := by
  have e1 : (b == 32) = false := by simpa using h1
  have e2 : (b == 64) = false := by simpa using h2
  clear h1 h2
  go_enter Try.func21, Try.ntmps21
  go_wp2
  exact bodyPost_ret (v := .agg #[.int .i64 0, .bool false]) (by simp [results, Try.results21, go_sem]) rfl ⟨rfl, (Below.refl _ _).alloc (Nat.le_refl _) _⟩

theorem iknown_no (w : World) : Calls Try.prog 22 #[.agg #[.int .i64 0, .bool false]] w fun e w' => e = .returned (.bool false) ∧ Below w.heap.size w w' := by
  go_enter Try.func22, Try.ntmps22
  go_wp2
  go_ret
  exact ⟨rfl, (Below.refl _ _).alloc (Nat.le_refl _) _⟩

theorem shr_min (Y ap : Nat) (hY : Y < 18446744073709551616) : (Y : Int) / 2 ^ min ap 64 = ((Y / 2 ^ ap : Nat) : Int) := by
  by_cases h : ap ≤ 64
  · rw [Nat.min_eq_left h, Int.natCast_ediv, Int.natCast_pow]; rfl
  · rw [Nat.min_eq_right (by omega)]
    have h64 : (2 : Nat) ^ 64 = 18446744073709551616 := by decide
    have hle : (2 : Nat) ^ 64 ≤ 2 ^ ap := Nat.pow_le_pow_right (by decide) (by omega)
    rw [Nat.div_eq_of_lt (show Y < 2 ^ ap by omega), show (2 : Int) ^ 64 = 18446744073709551616 by decide]
    omega

theorem whole_neg (m k : Nat) (hm : m < 18446744073709551616) (hk0 : 0 < k) (hk : k ≤ 4000) (w : World) : Calls Try.prog 24 #[.int .u64 m, .int .i64 (-(k : Int))] w fun e w' => e = .returned (.tuple #[.int .u64 ((m / 2 ^ k : Nat) : Int), .bool true]) ∧ Below w.heap.size w w' := by
  obtain ⟨z, hz⟩ : ∃ z : Int, z = -(k : Int) := ⟨_, rfl⟩
  have c1 : decide (z < 0) = true := by simp; omega
  have c2 : wrap64 (-z) = (k : Int) := by unfold wrap64; omega
  have hs := fun W : World => shr_run (P := Try.prog) (w := W) m k hm
  obtain ⟨q, hq⟩ : ∃ q : Nat, q = m / 2 ^ k := ⟨_, rfl⟩
  have c4 : (m : Int) / 2 ^ min k 64 = (q : Int) := by
    rw [hq]; exact shr_min m k hm
  rw [← hz]
  rw [← hq] at hs ⊢
  clear hz hq hk0 hk
  go_enter Try.func24, Try.ntmps24
  go_wp2
  exact bodyPost_ret (v := .tuple #[.int .u64 (q : Int), .bool true]) (by simp [results, Try.results24, go_sem, c4]) rfl ⟨rfl, Below.refl _ _⟩

theorem whole_pos (m k : Nat) (hm : m < 18446744073709551616) (hk : k ≤ 4000) (w : World) : Calls Try.prog 24 #[.int .u64 m, .int .i64 (k : Int)] w fun e w' => e = .returned (.tuple #[.int .u64 ((m * 2 ^ k % 18446744073709551616 : Nat) : Int), .bool (decide (m * 2 ^ k % 18446744073709551616 / 2 ^ k = m))]) ∧ Below w.heap.size w w' := by
  have c1 : decide ((k : Int) < 0) = false := by simp
  have hs := fun W : World => shl_run (P := Try.prog) (w := W) m k
  obtain ⟨q, hq⟩ : ∃ q : Nat, q = m * 2 ^ k % 18446744073709551616 := ⟨_, rfl⟩
  have hr := fun W : World => shr_run (P := Try.prog) (w := W) q k (by omega)
  rw [← hq] at hs ⊢
  obtain ⟨r, hr'⟩ : ∃ r : Nat, r = q / 2 ^ k := ⟨_, rfl⟩
  rw [← hr'] at hr ⊢
  have c5 : (q : Int) / 2 ^ min k 64 = (r : Int) := by rw [hr']; exact shr_min q k (by omega)
  have c4 : IntKind.u64.wrap ((m : Int) * 2 ^ min k 64) = (q : Int) := by
    have := hs default
    unfold Op.shift at this
    rw [if_neg (by omega)] at this
    injection this with h1 h2
    injection h1
  obtain ⟨B, hB⟩ : ∃ B : Bool, B = decide (r = m) := ⟨_, rfl⟩
  have c2 : ((r : Int) == (m : Int)) = B := by
    rw [hB]; by_cases h : r = m
    · subst h; simp
    · have : (r : Int) ≠ (m : Int) := by omega
      simp [h, this]
  rw [← hB]
  clear hr' hq hk hB
  go_enter Try.func24, Try.ntmps24
  go_wp2
  go_quiet (fail)
  go_wp2
  exact bodyPost_ret (v := .tuple #[.int .u64 (q : Int), .bool B]) (by simp [results, Try.results24, go_sem, c2, c4, c5]) rfl ⟨rfl, below_drewN (Below.refl _ _) _⟩

theorem integerOf_32 (s : Bool) (w : World) : Calls Try.prog 21 #[.int .i64 32, .bool s] w fun e w' => e = .returned (.agg #[.int .i64 32, .bool s]) ∧ Below w.heap.size w w' := by
  go_enter Try.func21, Try.ntmps21
  go_wp2
  exact bodyPost_ret (v := .agg #[.int .i64 32, .bool s]) (by simp [results, Try.results21, go_sem]) rfl ⟨rfl, (Below.refl _ _).alloc (Nat.le_refl _) _⟩

theorem iknown_32 (s : Bool) (w : World) : Calls Try.prog 22 #[.agg #[.int .i64 32, .bool s]] w fun e w' => e = .returned (.bool true) ∧ Below w.heap.size w w' := by
  cases s <;>
  · go_enter Try.func22, Try.ntmps22
    go_wp2
    go_ret
    exact ⟨rfl, (Below.refl _ _).alloc (Nat.le_refl _) _⟩

theorem icut_32 (s : Bool) (a : Nat) (ha : a < 18446744073709551616) (w : World) : Calls Try.prog 26 #[.agg #[.int .i64 32, .bool s], .int .u64 a] w fun e w' => e = .returned (.int .u64 ((a % 4294967296 : Nat) : Int)) ∧ Below w.heap.size w w' := by
  have hand : bits .and .u64 (a : Int) 4294967295 = ((a % 4294967296 : Nat) : Int) := by
    have := bits_and_u64_nat a 4294967295 ha (by decide)
    rw [show (4294967295 : Nat) = 2 ^ 32 - 1 by decide, Nat.and_two_pow_sub_one_eq_mod] at this
    exact this
  obtain ⟨c, hc⟩ : ∃ c : Nat, c = a % 4294967296 := ⟨_, rfl⟩
  rw [← hc] at hand ⊢
  clear hc ha
  have hand2 : bits .and .u64 (a : Int) (IntKind.u64.wrap (IntKind.u64.wrap 4294967296 - 1)) = (c : Int) := hand
  go_enter Try.func26, Try.ntmps26
  go_wp2
  go_ret
  exact ⟨by first | rfl | exact congrArg (fun x => Ending.returned (.int .u64 x)) hand2, (Below.refl _ _).alloc (Nat.le_refl _) _⟩

theorem bound_32 (s neg : Bool) (w : World) : Calls Try.prog 25 #[.agg #[.int .i64 32, .bool s], .bool neg] w fun e w' => e = .returned (.int .u64 ((bnd 32 s neg : Nat) : Int)) ∧ Below w.heap.size w w' := by
  cases s <;> cases neg
  · rw [show bnd 32 false false = 4294967295 by decide]
    go_enter Try.func25, Try.ntmps25
    go_wp2
    go_ret
    exact ⟨rfl, (Below.refl _ _).alloc (Nat.le_refl _) _⟩
  · rw [show bnd 32 false true = 0 by decide]
    go_enter Try.func25, Try.ntmps25
    go_wp2
    go_ret
    exact ⟨rfl, (Below.refl _ _).alloc (Nat.le_refl _) _⟩
  · rw [show bnd 32 true false = 2147483647 by decide]
    go_enter Try.func25, Try.ntmps25
    go_wp2
    go_ret
    exact ⟨rfl, (Below.refl _ _).alloc (Nat.le_refl _) _⟩
  · rw [show bnd 32 true true = 2147483648 by decide]
    go_enter Try.func25, Try.ntmps25
    go_wp2
    go_ret
    exact ⟨rfl, (Below.refl _ _).alloc (Nat.le_refl _) _⟩

theorem cparts_32 (a : Nat) (ha : a < 18446744073709551616) (hf : a % 4294967296 % 2147483648 < 2139095040) (w : World) :
    Calls Try.prog 23 #[.int .i64 32, .int .u64 a] w fun e w' => e = .returned (.tuple #[.bool (decide (2147483648 ≤ a % 4294967296)), .int .u64 ((pm 23 (a % 4294967296 % 2147483648) : Nat) : Int), .int .i64 (pe 23 (-149) (a % 4294967296 % 2147483648))]) ∧ Below w.heap.size w w' := by
  have HP := fun w => hid (Parts_32 a ha hf w)
  obtain ⟨n1, hn1⟩ : ∃ n1 : Bool, n1 = decide (2147483648 ≤ a % 4294967296) := ⟨_, rfl⟩
  obtain ⟨m1, hm1⟩ : ∃ m1 : Nat, m1 = pm 23 (a % 4294967296 % 2147483648) := ⟨_, rfl⟩
  obtain ⟨e1, he1⟩ : ∃ e1 : Int, e1 = pe 23 (-149) (a % 4294967296 % 2147483648) := ⟨_, rfl⟩
  rw [← hn1, ← hm1, ← he1] at HP ⊢
  clear hn1 hm1 he1 hf ha
  go_enter Try.func23, Try.ntmps23
  go_wp2_with (first | (go_at_call 44; ((with_reducible refine (HP _).out.mono ?_); rintro e w1 ⟨rfl, hb⟩)))
  exact bodyPost_ret (v := .tuple #[.bool n1, .int .u64 m1, .int .i64 e1]) (by simp [results, Try.results23, go_sem]) rfl ⟨rfl, hb⟩

theorem cparts_32_inf (a : Nat) (ha : a < 18446744073709551616) (hf : a % 4294967296 % 2147483648 = 2139095040) (w : World) :
    Calls Try.prog 23 #[.int .i64 32, .int .u64 a] w fun e w' => e = .returned (.tuple #[.bool (decide (2147483648 ≤ a % 4294967296)), .int .u64 1, .int .i64 1024]) ∧ Below w.heap.size w w' := by
  have HP := fun w => hid (Parts_32_no a ha (by omega) w)
  have hrel : relW 2147483648 2139095040 3 (a % 4294967296) (0 % 4294967296) = decide (2147483648 ≤ a % 4294967296) := by
    have hlt : a % 4294967296 < 4294967296 := Nat.mod_lt _ (by decide)
    unfold relW relI rankOf
    generalize a % 4294967296 = c at *
    rw [if_neg (by omega)]
    simp only [Nat.zero_mod, show (0 : Nat) % 2147483648 = 0 by decide]
    rw [if_neg (show ¬ 2147483648 ≤ 0 by decide)]
    by_cases h : 2147483648 ≤ c
    · rw [if_pos h]; simp [h]; omega
    · rw [if_neg h]; simp [h]; omega
  have HR : ∀ W, Hid (Calls Try.prog 45 #[.int .i64 32, .int .i64 3, .int .u64 a, .int .u64 0] W fun e w' => e = .returned (.tuple #[.bool (decide (2147483648 ≤ a % 4294967296)), .int .i64 0]) ∧ Below W.heap.size W w') := fun W => by
    have := Rel_32 3 (by decide) a 0 ha (by decide) W
    rw [hrel] at this
    exact this
  obtain ⟨n1, hn1⟩ : ∃ n1 : Bool, n1 = decide (2147483648 ≤ a % 4294967296) := ⟨_, rfl⟩
  rw [← hn1] at HR ⊢
  clear hn1 hf ha hrel
  go_enter Try.func23, Try.ntmps23
  go_wp2_with (first
    | (go_at_call 44; ((with_reducible refine (HP _).out.mono ?_); rintro e w1 ⟨rfl, hb⟩))
    | (go_at_call 45; ((with_reducible refine (HR _).out.mono ?_); rintro e w2 ⟨rfl, hb2⟩)))
  exact bodyPost_ret (v := .tuple #[.bool n1, .int .u64 1, .int .i64 1024]) (by simp [results, Try.results23, go_sem]) rfl ⟨rfl, bnext hb hb2⟩

theorem integerOf_64 (s : Bool) (w : World) : Calls Try.prog 21 #[.int .i64 64, .bool s] w fun e w' => e = .returned (.agg #[.int .i64 64, .bool s]) ∧ Below w.heap.size w w' := by
  go_enter Try.func21, Try.ntmps21
  go_wp2
  exact bodyPost_ret (v := .agg #[.int .i64 64, .bool s]) (by simp [results, Try.results21, go_sem]) rfl ⟨rfl, (Below.refl _ _).alloc (Nat.le_refl _) _⟩

theorem iknown_64 (s : Bool) (w : World) : Calls Try.prog 22 #[.agg #[.int .i64 64, .bool s]] w fun e w' => e = .returned (.bool true) ∧ Below w.heap.size w w' := by
  cases s <;>
  · go_enter Try.func22, Try.ntmps22
    go_wp2
    go_ret
    exact ⟨rfl, (Below.refl _ _).alloc (Nat.le_refl _) _⟩

theorem icut_64 (s : Bool) (a : Nat) (ha : a < 18446744073709551616) (w : World) : Calls Try.prog 26 #[.agg #[.int .i64 64, .bool s], .int .u64 a] w fun e w' => e = .returned (.int .u64 ((a % 18446744073709551616 : Nat) : Int)) ∧ Below w.heap.size w w' := by
  have hand : bits .and .u64 (a : Int) 18446744073709551615 = ((a % 18446744073709551616 : Nat) : Int) := by
    have := bits_and_u64_nat a 18446744073709551615 ha (by decide)
    rw [show (18446744073709551615 : Nat) = 2 ^ 64 - 1 by decide, Nat.and_two_pow_sub_one_eq_mod] at this
    exact this
  obtain ⟨c, hc⟩ : ∃ c : Nat, c = a % 18446744073709551616 := ⟨_, rfl⟩
  rw [← hc] at hand ⊢
  clear hc ha
  have hand2 : bits .and .u64 (a : Int) (IntKind.u64.wrap (IntKind.u64.wrap 18446744073709551616 - 1)) = (c : Int) := hand
  go_enter Try.func26, Try.ntmps26
  go_wp2
  go_ret
  exact ⟨by first | rfl | exact congrArg (fun x => Ending.returned (.int .u64 x)) hand2, (Below.refl _ _).alloc (Nat.le_refl _) _⟩

theorem bound_64 (s neg : Bool) (w : World) : Calls Try.prog 25 #[.agg #[.int .i64 64, .bool s], .bool neg] w fun e w' => e = .returned (.int .u64 ((bnd 64 s neg : Nat) : Int)) ∧ Below w.heap.size w w' := by
  cases s <;> cases neg
  · rw [show bnd 64 false false = 18446744073709551615 by decide]
    go_enter Try.func25, Try.ntmps25
    go_wp2
    go_ret
    exact ⟨rfl, (Below.refl _ _).alloc (Nat.le_refl _) _⟩
  · rw [show bnd 64 false true = 0 by decide]
    go_enter Try.func25, Try.ntmps25
    go_wp2
    go_ret
    exact ⟨rfl, (Below.refl _ _).alloc (Nat.le_refl _) _⟩
  · rw [show bnd 64 true false = 9223372036854775807 by decide]
    go_enter Try.func25, Try.ntmps25
    go_wp2
    go_ret
    exact ⟨rfl, (Below.refl _ _).alloc (Nat.le_refl _) _⟩
  · rw [show bnd 64 true true = 9223372036854775808 by decide]
    go_enter Try.func25, Try.ntmps25
    go_wp2
    go_ret
    exact ⟨rfl, (Below.refl _ _).alloc (Nat.le_refl _) _⟩

theorem cparts_64 (a : Nat) (ha : a < 18446744073709551616) (hf : a % 18446744073709551616 % 9223372036854775808 < 9218868437227405312) (w : World) :
    Calls Try.prog 23 #[.int .i64 64, .int .u64 a] w fun e w' => e = .returned (.tuple #[.bool (decide (9223372036854775808 ≤ a % 18446744073709551616)), .int .u64 ((pm 52 (a % 18446744073709551616 % 9223372036854775808) : Nat) : Int), .int .i64 (pe 52 (-1074) (a % 18446744073709551616 % 9223372036854775808))]) ∧ Below w.heap.size w w' := by
  have HP := fun w => hid (Parts_64 a ha hf w)
  obtain ⟨n1, hn1⟩ : ∃ n1 : Bool, n1 = decide (9223372036854775808 ≤ a % 18446744073709551616) := ⟨_, rfl⟩
  obtain ⟨m1, hm1⟩ : ∃ m1 : Nat, m1 = pm 52 (a % 18446744073709551616 % 9223372036854775808) := ⟨_, rfl⟩
  obtain ⟨e1, he1⟩ : ∃ e1 : Int, e1 = pe 52 (-1074) (a % 18446744073709551616 % 9223372036854775808) := ⟨_, rfl⟩
  rw [← hn1, ← hm1, ← he1] at HP ⊢
  clear hn1 hm1 he1 hf ha
  go_enter Try.func23, Try.ntmps23
  go_wp2_with (first | (go_at_call 44; ((with_reducible refine (HP _).out.mono ?_); rintro e w1 ⟨rfl, hb⟩)))
  exact bodyPost_ret (v := .tuple #[.bool n1, .int .u64 m1, .int .i64 e1]) (by simp [results, Try.results23, go_sem]) rfl ⟨rfl, hb⟩

theorem cparts_64_inf (a : Nat) (ha : a < 18446744073709551616) (hf : a % 18446744073709551616 % 9223372036854775808 = 9218868437227405312) (w : World) :
    Calls Try.prog 23 #[.int .i64 64, .int .u64 a] w fun e w' => e = .returned (.tuple #[.bool (decide (9223372036854775808 ≤ a % 18446744073709551616)), .int .u64 1, .int .i64 1024]) ∧ Below w.heap.size w w' := by
  have HP := fun w => hid (Parts_64_no a ha (by omega) w)
  have hrel : relW 9223372036854775808 9218868437227405312 3 (a % 18446744073709551616) (0 % 18446744073709551616) = decide (9223372036854775808 ≤ a % 18446744073709551616) := by
    have hlt : a % 18446744073709551616 < 18446744073709551616 := Nat.mod_lt _ (by decide)
    unfold relW relI rankOf
    generalize a % 18446744073709551616 = c at *
    rw [if_neg (by omega)]
    simp only [Nat.zero_mod, show (0 : Nat) % 9223372036854775808 = 0 by decide]
    rw [if_neg (show ¬ 9223372036854775808 ≤ 0 by decide)]
    by_cases h : 9223372036854775808 ≤ c
    · rw [if_pos h]; simp [h]; omega
    · rw [if_neg h]; simp [h]; omega
  have HR : ∀ W, Hid (Calls Try.prog 45 #[.int .i64 64, .int .i64 3, .int .u64 a, .int .u64 0] W fun e w' => e = .returned (.tuple #[.bool (decide (9223372036854775808 ≤ a % 18446744073709551616)), .int .i64 0]) ∧ Below W.heap.size W w') := fun W => by
    have := Rel_64 3 (by decide) a 0 ha (by decide) W
    rw [hrel] at this
    exact this
  obtain ⟨n1, hn1⟩ : ∃ n1 : Bool, n1 = decide (9223372036854775808 ≤ a % 18446744073709551616) := ⟨_, rfl⟩
  rw [← hn1] at HR ⊢
  clear hn1 hf ha hrel
  go_enter Try.func23, Try.ntmps23
  go_wp2_with (first
    | (go_at_call 44; ((with_reducible refine (HP _).out.mono ?_); rintro e w1 ⟨rfl, hb⟩))
    | (go_at_call 45; ((with_reducible refine (HR _).out.mono ?_); rintro e w2 ⟨rfl, hb2⟩)))
  exact bodyPost_ret (v := .tuple #[.bool n1, .int .u64 1, .int .i64 1024]) (by simp [results, Try.results23, go_sem]) rfl ⟨rfl, bnext hb hb2⟩

end Go.Proofs.Ytnpamiofhalimaa
