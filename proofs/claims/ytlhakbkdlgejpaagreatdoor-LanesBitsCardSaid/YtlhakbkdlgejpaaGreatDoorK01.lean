/-
  Math, LMath, Small, Div, Shift: merged, what the law does not reach left out (each text says what it holds where it lies in wip). No condition.
-/
import Derived.Laws.BitsLemmas
import Derived.Laws.Bits64
import Derived.Laws.Bits64b
import Derived.Test.YtlhakbkdlgejpaaGreatDoorProg
import Derived.WalkKit
import Derived.WalkSpells
import Derived.WalkLawsBesides
set_option linter.unusedSimpArgs false
set_option linter.unusedVariables false
set_option maxRecDepth 100000
namespace Go.Proofs.YtlhakbkdlgejpaaGreatDoor
open Go
/-- There are integers of so many bits. -/
def Okn (n : Nat) : Prop := n = 8 ∨ n = 16 ∨ n = 32 ∨ n = 64
instance (n : Nat) : Decidable (Okn n) := by unfold Okn; exact inferInstance
theorem Okn.le {n : Nat} (h : Okn n) : 8 ≤ n ∧ n ≤ 64 := by unfold Okn at h; omega
/-- The value with a sign. -/
def sg (n a : Nat) : Int := if 2 ^ (n - 1) ≤ a then (a : Int) - (2 ^ n : Nat) else a
/-- Cut. -/
def toN (n : Nat) (z : Int) : Nat := (z % (2 ^ n : Nat)).toNat
/-- Quotients and rests; the error. -/
def divR (n op a b : Nat) : Nat × Nat :=
  if b = 0 then (0, 41)
  else if op = 5 then (a / b, 0)
  else if op = 7 then (a % b, 0)
  else if op = 6 then (toN n ((sg n a).tmod (sg n b)), 0)
  else if a = 2 ^ (n - 1) ∧ b = 2 ^ n - 1 then (0, 42) else (toN n ((sg n a).tdiv (sg n b)), 0)
/-- Shifted and rotated by k. -/
def shiftR (n op a k : Nat) : Nat :=
  if op = 11 then a * 2 ^ k % 2 ^ n
  else if op = 12 then toN n (sg n a / (2 ^ k : Nat))
  else if op = 13 then a / 2 ^ k
  else if op = 14 then ((a * 2 ^ k) ||| (a / 2 ^ (n - k))) % 2 ^ n
  else ((a * 2 ^ (n - k)) ||| (a / 2 ^ k)) % 2 ^ n
/-- The nearest number with a sign. -/
def clampS (n : Nat) (z : Int) : Int := if z < -((2 ^ (n - 1) : Nat) : Int) then -((2 ^ (n - 1) : Nat) : Int) else if ((2 ^ (n - 1) : Nat) : Int) - 1 < z then ((2 ^ (n - 1) : Nat) : Int) - 1 else z
/-- Sums and differences that are held. -/
def satR (n op a b : Nat) : Nat :=
  if op = 16 then toN n (clampS n (sg n a + sg n b))
  else if op = 18 then toN n (clampS n (sg n a - sg n b))
  else if op = 17 then (if 2 ^ n - 1 < a + b then 2 ^ n - 1 else a + b)
  else a - b
/-- The smaller and the larger one. -/
def mmR (n op a b : Nat) : Nat :=
  if op = 20 then (if sg n a < sg n b then a else b)
  else if op = 22 then (if sg n a < sg n b then b else a)
  else if op = 21 then (if a < b then a else b)
  else (if a < b then b else a)
/-- What two cut numbers come to; the error. -/
def binR (n op a b : Nat) : Nat × Nat :=
  if op = 1 then ((a + b) % 2 ^ n, 0)
  else if op = 2 then ((a + (2 ^ n - b)) % 2 ^ n, 0)
  else if op = 3 then (a * b % 2 ^ n, 0)
  else if op ≤ 7 then divR n op a b
  else if op = 8 then (a &&& b, 0)
  else if op = 9 then (a ||| b, 0)
  else if op = 10 then (a ^^^ b, 0)
  else if op ≤ 15 then (shiftR n op a (b % n), 0)
  else if op ≤ 19 then (satR n op a b, 0)
  else if op ≤ 23 then (mmR n op a b, 0)
  else if op = 24 then ((a + b + 1) / 2, 0)
  else (toN n (clampS n ((sg n a * sg n b + 16384) / 32768)), 0)
theorem pow_lt64 {n : Nat} (hn : Okn n) : 2 ^ (n - 1) < 18446744073709551616 ∧ 0 < 2 ^ (n - 1) ∧ 2 ^ n ≤ 18446744073709551616 ∧ 2 ^ n = 2 * 2 ^ (n - 1) := by
  rcases hn with rfl | rfl | rfl | rfl <;> decide
theorem and_pow (x i : Nat) : x &&& 2 ^ i = (x.testBit i).toNat * 2 ^ i := by
  apply Nat.eq_of_testBit_eq
  intro j
  rw [Nat.testBit_and, Nat.testBit_two_pow, Nat.testBit_mul_two_pow]
  by_cases h : i = j
  · subst h
    cases x.testBit i <;> simp
  · by_cases h2 : i ≤ j
    · have h3 : (x.testBit i).toNat.testBit (j - i) = false := by
        apply Nat.testBit_lt_two_pow
        have : 2 ^ 1 ≤ 2 ^ (j - i) := Nat.pow_le_pow_right (by decide) (by omega)
        have := Bool.toNat_le (x.testBit i)
        omega
      simp [h, h3]
    · simp [h, h2]
theorem testBit_top {n x : Nat} (hn : Okn n) (hx : x < 2 ^ n) : x.testBit (n - 1) = decide (2 ^ (n - 1) ≤ x) := by
  obtain ⟨_, _, _, h⟩ := pow_lt64 hn
  rw [h] at hx
  generalize hP : 2 ^ (n - 1) = P at *
  rw [Nat.testBit_eq_decide_div_mod_eq, hP]
  by_cases hc : P ≤ x
  · have : x / P = 1 := by
      rw [Nat.div_eq_iff (by omega)]; omega
    simp [this, hc]
  · have : x / P = 0 := Nat.div_eq_of_lt (by omega)
    simp [this, hc]
theorem sg_abs {n x : Nat} (hx : x < 2 ^ n) : (sg n x).natAbs = if 2 ^ (n - 1) ≤ x then 2 ^ n - x else x := by
  unfold sg
  split <;> omega
theorem neg_mod {n x : Nat} (hn : Okn n) (hx : x < 2 ^ n) (hc : 2 ^ (n - 1) ≤ x) : (18446744073709551616 - x) % 18446744073709551616 % 2 ^ n = 2 ^ n - x := by
  rcases hn with rfl | rfl | rfl | rfl <;> simp at hx hc ⊢ <;> omega
theorem toN_nat {n : Nat} (q : Nat) : toN n (q : Int) = q % 2 ^ n := by
  unfold toN
  rw [← Int.natCast_emod, Int.toNat_natCast]
theorem toN_neg {n : Nat} (hn : Okn n) (q : Nat) (hq : q ≤ 18446744073709551616) : toN n (-(q : Int)) = (18446744073709551616 - q) % 18446744073709551616 % 2 ^ n := by
  unfold toN
  rcases hn with rfl | rfl | rfl | rfl <;> simp <;> omega
theorem sg_neg {n x : Nat} (hx : x < 2 ^ n) : sg n x < 0 ↔ 2 ^ (n - 1) ≤ x := by
  unfold sg
  split <;> omega
theorem tdiv_same {x y : Int} (h : x < 0 ↔ y < 0) : x.tdiv y = ((x.natAbs / y.natAbs : Nat) : Int) := by
  obtain ⟨m, rfl | rfl⟩ := Int.eq_nat_or_neg x <;> obtain ⟨k, rfl | rfl⟩ := Int.eq_nat_or_neg y
  · simp
  · by_cases hk : k = 0
    · subst hk; simp
    · omega
  · by_cases hm : m = 0
    · subst hm; simp
    · omega
  · simp [Int.neg_tdiv, Int.tdiv_neg]
theorem tdiv_other {x y : Int} (h : ¬ (x < 0 ↔ y < 0)) : x.tdiv y = -((x.natAbs / y.natAbs : Nat) : Int) := by
  obtain ⟨m, rfl | rfl⟩ := Int.eq_nat_or_neg x <;> obtain ⟨k, rfl | rfl⟩ := Int.eq_nat_or_neg y
  · omega
  · simp [Int.tdiv_neg]
  · simp [Int.neg_tdiv]
  · by_cases hm : m = 0
    · subst hm; simp
    · by_cases hk : k = 0
      · subst hk; simp
      · omega
theorem tmod_pos {x y : Int} (h : ¬ x < 0) : x.tmod y = ((x.natAbs % y.natAbs : Nat) : Int) := by
  obtain ⟨m, rfl | rfl⟩ := Int.eq_nat_or_neg x <;> obtain ⟨k, rfl | rfl⟩ := Int.eq_nat_or_neg y
  · rw [Int.natAbs_natCast, Int.natAbs_natCast, Int.ofNat_tmod]
  · rw [Int.natAbs_natCast, Int.natAbs_neg, Int.natAbs_natCast, Int.ofNat_tmod, Int.tmod_neg]
  · by_cases hm : m = 0
    · subst hm; simp
    · omega
  · by_cases hm : m = 0
    · subst hm; simp
    · omega
theorem tmod_negs {x y : Int} (h : x < 0) : x.tmod y = -((x.natAbs % y.natAbs : Nat) : Int) := by
  obtain ⟨m, rfl | rfl⟩ := Int.eq_nat_or_neg x <;> obtain ⟨k, rfl | rfl⟩ := Int.eq_nat_or_neg y
  · omega
  · omega
  · rw [Int.natAbs_neg, Int.natAbs_natCast, Int.natAbs_natCast, Int.ofNat_tmod, Int.neg_tmod]
  · rw [Int.natAbs_neg, Int.natAbs_neg, Int.natAbs_natCast, Int.natAbs_natCast, Int.ofNat_tmod, Int.neg_tmod, Int.tmod_neg]
end Go.Proofs.YtlhakbkdlgejpaaGreatDoor
namespace Go.Proofs.YtlhakbkdlgejpaaGreatDoor
open Go
/-- k lanes of n bits in one number: of lane 0 the lowest bits. -/
def packF (n : Nat) : Nat → (Nat → Nat) → Nat
  | 0, _ => 0
  | k + 1, F => packF n k F + 2 ^ (n * k) * (F k % 2 ^ n)
/-- The i-th lane of a number. -/
def laneN (n x i : Nat) : Nat := x / 2 ^ (n * i) % 2 ^ n
/-- The i-th lane of both halves. -/
def splitF (n lo hi i : Nat) : Nat := if i < 64 / n then laneN n lo i else laneN n hi (i - 64 / n)
/-- How many lanes there are. -/
def cnt (n : Nat) : Nat := 128 / n
theorem Okn.cases {n : Nat} (h : Okn n) : (n = 8 ∧ 64 / n = 8 ∧ cnt n = 16) ∨ (n = 16 ∧ 64 / n = 4 ∧ cnt n = 8) ∨ (n = 32 ∧ 64 / n = 2 ∧ cnt n = 4) ∨ (n = 64 ∧ 64 / n = 1 ∧ cnt n = 2) := by
  rcases h with rfl | rfl | rfl | rfl <;> simp [cnt]
theorem packF_lt (n : Nat) : ∀ (k : Nat) (F : Nat → Nat), packF n k F < 2 ^ (n * k)
  | 0, F => by simp [packF]
  | k + 1, F => by
    have ih := packF_lt n k F
    have h : F k % 2 ^ n < 2 ^ n := Nat.mod_lt _ (Nat.two_pow_pos n)
    have e : 2 ^ (n * (k + 1)) = 2 ^ (n * k) * 2 ^ n := by rw [Nat.mul_add, Nat.mul_one, Nat.pow_add]
    rw [packF, e]
    calc packF n k F + 2 ^ (n * k) * (F k % 2 ^ n) < 2 ^ (n * k) + 2 ^ (n * k) * (F k % 2 ^ n) := by omega
      _ = 2 ^ (n * k) * (F k % 2 ^ n + 1) := by rw [Nat.mul_add, Nat.mul_one, Nat.add_comm]
      _ ≤ 2 ^ (n * k) * 2 ^ n := Nat.mul_le_mul_left _ h
theorem packF_congr (n : Nat) : ∀ (k : Nat) (F G : Nat → Nat), (∀ i, i < k → F i % 2 ^ n = G i % 2 ^ n) → packF n k F = packF n k G
  | 0, _, _, _ => rfl
  | k + 1, F, G, h => by
    rw [packF, packF, packF_congr n k F G (fun i hi => h i (by omega)), h k (by omega)]
/-- From the front. -/
theorem packF_front (n : Nat) : ∀ (k : Nat) (F : Nat → Nat), packF n (k + 1) F = F 0 % 2 ^ n + 2 ^ n * packF n k (fun i => F (i + 1))
  | 0, F => by simp [packF]
  | k + 1, F => by
    rw [packF, packF_front n k F, packF, Nat.add_assoc]
    congr 1
    rw [show n * (k + 1) = n + n * k by rw [Nat.mul_add]; omega, Nat.pow_add, Nat.mul_add, Nat.mul_assoc]
theorem packF_or (n k : Nat) (F : Nat → Nat) : packF n k F ||| (F k % 2 ^ n) * 2 ^ (n * k) = packF n (k + 1) F := by
  have := Nat.two_pow_add_eq_or_of_lt (packF_lt n k F) (F k % 2 ^ n)
  rw [packF, Nat.or_comm, Nat.mul_comm, ← this, Nat.add_comm]
/-- The lanes of a number make it up again. -/
theorem packF_lanes (n x : Nat) : ∀ k, packF n k (laneN n x) = x % 2 ^ (n * k)
  | 0 => by simp [packF, Nat.mod_one]
  | k + 1 => by
    rw [packF, packF_lanes n x k]
    have e : laneN n x k % 2 ^ n = x / 2 ^ (n * k) % 2 ^ n := by unfold laneN; rw [Nat.mod_mod]
    rw [e, show n * (k + 1) = n * k + n by rw [Nat.mul_add, Nat.mul_one], Nat.pow_add, Nat.mod_mul]
theorem laneN_lt (n x i : Nat) : laneN n x i < 2 ^ n := Nat.mod_lt _ (Nat.two_pow_pos n)
theorem splitF_lt (n lo hi i : Nat) : splitF n lo hi i < 2 ^ n := by unfold splitF; split <;> exact laneN_lt _ _ _
theorem splitF_u64 {n : Nat} (h : Okn n) (lo hi i : Nat) : splitF n lo hi i < 18446744073709551616 :=
  Nat.lt_of_lt_of_le (splitF_lt n lo hi i) (Nat.pow_le_pow_right (by decide) h.le.2)
/-- The halves of the vector of lanes. -/
def loF (n : Nat) (F : Nat → Nat) : Nat := packF n (64 / n) F
def hiF (n : Nat) (F : Nat → Nat) : Nat := packF n (64 / n) (fun i => F (i + 64 / n))
theorem Okn.half {n : Nat} (h : Okn n) : n * (64 / n) = 64 := by rcases h with rfl | rfl | rfl | rfl <;> rfl
theorem loF_congr {n : Nat} (h : Okn n) {F G : Nat → Nat} (e : ∀ i, i < cnt n → F i % 2 ^ n = G i % 2 ^ n) : loF n F = loF n G :=
  packF_congr n _ _ _ fun i hi => e i (by rcases h.cases with ⟨_, h1, h2⟩ | ⟨_, h1, h2⟩ | ⟨_, h1, h2⟩ | ⟨_, h1, h2⟩ <;> omega)
theorem hiF_congr {n : Nat} (h : Okn n) {F G : Nat → Nat} (e : ∀ i, i < cnt n → F i % 2 ^ n = G i % 2 ^ n) : hiF n F = hiF n G :=
  packF_congr n _ _ _ fun i hi => e _ (by rcases h.cases with ⟨_, h1, h2⟩ | ⟨_, h1, h2⟩ | ⟨_, h1, h2⟩ | ⟨_, h1, h2⟩ <;> omega)
/-- What is cut is joined to what it was. -/
theorem loF_split {n : Nat} (h : Okn n) (lo hi : Nat) (hl : lo < 18446744073709551616) : loF n (splitF n lo hi) = lo := by
  have e : loF n (splitF n lo hi) = packF n (64 / n) (laneN n lo) := packF_congr n _ _ _ fun i hi => by unfold splitF; rw [if_pos hi]
  rw [e, packF_lanes, h.half]; exact Nat.mod_eq_of_lt hl
theorem hiF_split {n : Nat} (h : Okn n) (lo hi : Nat) (hl : hi < 18446744073709551616) : hiF n (splitF n lo hi) = hi := by
  have e : hiF n (splitF n lo hi) = packF n (64 / n) (laneN n hi) := packF_congr n _ _ _ fun i hi => by
    unfold splitF; rw [if_neg (by omega), Nat.add_sub_cancel]
  rw [e, packF_lanes, h.half]; exact Nat.mod_eq_of_lt hl
end Go.Proofs.YtlhakbkdlgejpaaGreatDoor
namespace Go.Proofs.YtlhakbkdlgejpaaGreatDoor
open Go.RowKit
theorem known_yes (n : Nat) (hn : Okn n) (w : World) : Calls Tryz.prog 135 #[.int .i64 n] w fun e w' => e = .returned (.bool true) ∧ w = w' := by
  rcases hn with rfl | rfl | rfl | rfl
  · show Calls Tryz.prog 135 #[.int .i64 8] w _
    go_enter Tryz.func135, Tryz.ntmps135
    go_wp2
    go_ret
    exact ⟨rfl, rfl⟩
  · show Calls Tryz.prog 135 #[.int .i64 16] w _
    go_enter Tryz.func135, Tryz.ntmps135
    go_wp2
    go_ret
    exact ⟨rfl, rfl⟩
  · show Calls Tryz.prog 135 #[.int .i64 32] w _
    go_enter Tryz.func135, Tryz.ntmps135
    go_wp2
    go_ret
    exact ⟨rfl, rfl⟩
  · show Calls Tryz.prog 135 #[.int .i64 64] w _
    go_enter Tryz.func135, Tryz.ntmps135
    go_wp2
    go_ret
    exact ⟨rfl, rfl⟩
theorem hid {p : Prop} (h : p) : Hid p := h
/-- The bits are of no kind. -/
def Bad (b : Int) : Prop := b ≠ 8 ∧ b ≠ 16 ∧ b ≠ 32 ∧ b ≠ 64
theorem known_no (b : Int) (hb : Bad b) (w : World) : Calls Tryz.prog 135 #[.int .i64 b] w fun e w' => e = .returned (.bool false) ∧ w = w' := by
  obtain ⟨h1, h2, h3, h4⟩ := hb
  have e1 : (b == 8) = false := by simpa using h1
  have e2 : (b == 16) = false := by simpa using h2
  have e3 : (b == 32) = false := by simpa using h3
  have e4 : (b == 64) = false := by simpa using h4
  clear h1 h2 h3 h4
  go_enter Tryz.func135, Tryz.ntmps135
  go_wp2
  go_ret
  exact ⟨rfl, rfl⟩
theorem ones_any (n : Nat) (hn : Okn n) (w : World) : Calls Tryz.prog 201 #[.int .i64 n] w fun e w' => e = .returned (.int .u64 ((2 ^ n - 1 : Nat) : Int)) ∧ w = w' := by
  rcases hn with rfl | rfl | rfl | rfl
  · show Calls Tryz.prog 201 #[.int .i64 8] w fun e w' => e = .returned (.int .u64 255) ∧ w = w'
    go_enter Tryz.func201, Tryz.ntmps201
    go_wp2
    go_ret
    exact ⟨rfl, rfl⟩
  · show Calls Tryz.prog 201 #[.int .i64 16] w fun e w' => e = .returned (.int .u64 65535) ∧ w = w'
    go_enter Tryz.func201, Tryz.ntmps201
    go_wp2
    go_ret
    exact ⟨rfl, rfl⟩
  · show Calls Tryz.prog 201 #[.int .i64 32] w fun e w' => e = .returned (.int .u64 4294967295) ∧ w = w'
    go_enter Tryz.func201, Tryz.ntmps201
    go_wp2
    go_ret
    exact ⟨rfl, rfl⟩
  · show Calls Tryz.prog 201 #[.int .i64 64] w fun e w' => e = .returned (.int .u64 18446744073709551615) ∧ w = w'
    go_enter Tryz.func201, Tryz.ntmps201
    go_wp2
    go_ret
    exact ⟨rfl, rfl⟩
theorem sign_any (n : Nat) (hn : Okn n) (w : World) : Calls Tryz.prog 173 #[.int .i64 n] w fun e w' => e = .returned (.int .u64 ((2 ^ (n - 1) : Nat) : Int)) ∧ w = w' := by
  rcases hn with rfl | rfl | rfl | rfl
  · show Calls Tryz.prog 173 #[.int .i64 8] w fun e w' => e = .returned (.int .u64 128) ∧ w = w'
    go_enter Tryz.func173, Tryz.ntmps173
    go_wp2
    go_ret
    exact ⟨rfl, rfl⟩
  · show Calls Tryz.prog 173 #[.int .i64 16] w fun e w' => e = .returned (.int .u64 32768) ∧ w = w'
    go_enter Tryz.func173, Tryz.ntmps173
    go_wp2
    go_ret
    exact ⟨rfl, rfl⟩
  · show Calls Tryz.prog 173 #[.int .i64 32] w fun e w' => e = .returned (.int .u64 2147483648) ∧ w = w'
    go_enter Tryz.func173, Tryz.ntmps173
    go_wp2
    go_ret
    exact ⟨rfl, rfl⟩
  · show Calls Tryz.prog 173 #[.int .i64 64] w fun e w' => e = .returned (.int .u64 9223372036854775808) ∧ w = w'
    go_enter Tryz.func173, Tryz.ntmps173
    go_wp2
    go_ret
    exact ⟨rfl, rfl⟩
theorem cut_any (n : Nat) (hn : Okn n) (a : Nat) (ha : a < 18446744073709551616) (w : World) : Calls Tryz.prog 136 #[.int .i64 n, .int .u64 a] w fun e w' => e = .returned (.int .u64 ((a % 2 ^ n : Nat) : Int)) ∧ w = w' := by
  have hb : 2 ^ n - 1 < 18446744073709551616 := by rcases hn with rfl | rfl | rfl | rfl <;> decide
  have hand : bits .and .u64 (a : Int) ((2 ^ n - 1 : Nat) : Int) = ((a % 2 ^ n : Nat) : Int) := by
    rw [bits_and_u64_nat _ _ ha hb, Nat.and_two_pow_sub_one_eq_mod]
  have HO := hid (ones_any n hn w)
  clear hb hn
  obtain ⟨m, hm⟩ : ∃ m : Nat, m = 2 ^ n - 1 := ⟨_, rfl⟩
  obtain ⟨y, hy⟩ : ∃ y : Nat, y = a % 2 ^ n := ⟨_, rfl⟩
  rw [← hm] at HO hand
  rw [← hy] at hand ⊢
  clear hm hy
  go_enter Tryz.func136, Tryz.ntmps136
  go_wp2_with (go_at_call 201; refine HO.out.mono ?_; rintro e w' ⟨rfl, rfl⟩)
  go_ret
  exact ⟨rfl, rfl⟩
theorem negative_any (n : Nat) (hn : Okn n) (x : Nat) (hx : x < 18446744073709551616) (b : Bool) (hb : x.testBit (n - 1) = b) (w : World) :
    Calls Tryz.prog 202 #[.int .i64 n, .int .u64 x] w fun e w' => e = .returned (.bool b) ∧ w = w' := by
  obtain ⟨h1, h2, _⟩ := pow_lt64 hn
  have hand : bits .and .u64 (x : Int) ((2 ^ (n - 1) : Nat) : Int) = ((b.toNat * 2 ^ (n - 1) : Nat) : Int) := by
    rw [bits_and_u64_nat _ _ hx h1, and_pow, hb]
  have HS := hid (sign_any n hn w)
  clear hn hb
  obtain ⟨S, hS⟩ : ∃ S : Nat, S = 2 ^ (n - 1) := ⟨_, rfl⟩
  rw [← hS] at HS hand h1 h2
  clear hS
  cases b with
  | true =>
    have hand2 : bits .and .u64 (x : Int) (S : Int) = (S : Int) := by rw [hand]; simp
    have hne : ((S : Int) != 0) = true := by simp; omega
    clear hand
    go_enter Tryz.func202, Tryz.ntmps202
    go_wp2_with (go_at_call 173; refine HS.out.mono ?_; rintro e w' ⟨rfl, rfl⟩)
    go_ret
    exact ⟨rfl, rfl⟩
  | false =>
    have hand2 : bits .and .u64 (x : Int) (S : Int) = 0 := by rw [hand]; simp
    clear hand
    go_enter Tryz.func202, Tryz.ntmps202
    go_wp2_with (go_at_call 173; refine HS.out.mono ?_; rintro e w' ⟨rfl, rfl⟩)
    go_ret
    exact ⟨rfl, rfl⟩
set_option maxHeartbeats 400000 in
theorem size_any (n : Nat) (hn : Okn n) (x : Nat) (hx : x < 2 ^ n) (w : World) :
    Calls Tryz.prog 139 #[.int .i64 n, .int .u64 x] w fun e w' => e = .returned (.int .u64 ((sg n x).natAbs : Nat)) ∧ w = w' := by
  obtain ⟨h1, h2, h3, h4⟩ := pow_lt64 hn
  have hx64 : x < 18446744073709551616 := by omega
  rw [sg_abs hx]
  have htop := testBit_top hn hx
  have hneg : IntKind.u64.wrap (-(x : Int)) = (((18446744073709551616 - x) % 18446744073709551616 : Nat) : Int) := by
    rw [IntKind.wrap_u64]; omega
  by_cases hc : 2 ^ (n - 1) ≤ x
  · rw [if_pos hc]
    have HN := hid (negative_any n hn x hx64 true (by rw [htop]; simp [hc]) w)
    have HC := hid (cut_any n hn ((18446744073709551616 - x) % 18446744073709551616) (by omega) w)
    rw [neg_mod hn hx hc] at HC
    obtain ⟨y, hy⟩ : ∃ y : Nat, y = (18446744073709551616 - x) % 18446744073709551616 := ⟨_, rfl⟩
    obtain ⟨z, hz⟩ : ∃ z : Nat, z = 2 ^ n - x := ⟨_, rfl⟩
    rw [← hy, ← hz] at HC
    rw [← hy] at hneg
    rw [← hz]
    clear h1 h2 h3 h4 htop hc hy hz hn hx hx64
    go_enter Tryz.func139, Tryz.ntmps139
    go_wp2_with (first
      | (go_at_call 202; refine HN.out.mono ?_; rintro e w' ⟨rfl, rfl⟩)
      | (go_at_call 136; refine HC.out.mono ?_; rintro e w' ⟨rfl, rfl⟩))
    go_ret
    exact ⟨rfl, rfl⟩
  · rw [if_neg hc]
    have HN := hid (negative_any n hn x hx64 false (by rw [htop]; simp [hc]) w)
    clear hneg h1 h2 h3 h4 htop hc hn hx hx64
    go_enter Tryz.func139, Tryz.ntmps139
    go_wp2_with (go_at_call 202; refine HN.out.mono ?_; rintro e w' ⟨rfl, rfl⟩)
    go_ret
    exact ⟨rfl, rfl⟩
theorem ret_int {k : IntKind} {a b : Int} (h : a = b) : Ending.returned (.int k a) = .returned (.int k b) := by rw [h]
theorem Signed_ok (n : Nat) (hn : Okn n) (a : Nat) (ha : a < 18446744073709551616) (w : World) :
    Calls Tryz.prog 121 #[.int .i64 n, .int .u64 a] w fun e w' => e = .returned (.int .i64 (sg n (a % 2 ^ n))) ∧ w = w' := by
  have HK := hid (known_yes n hn w)
  have ha0 : 0 ≤ (a : Int) := by omega
  have ha1 : (a : Int) < 18446744073709551616 := by omega
  rcases hn with rfl | rfl | rfl | rfl
  · show Calls Tryz.prog 121 #[.int .i64 8, .int .u64 a] w _
    go_enter Tryz.func121, Tryz.ntmps121
    go_wp2_with (go_at_call 135; refine HK.out.mono ?_; rintro e w' ⟨rfl, rfl⟩)
    go_ret
    exact ⟨ret_int (by simp only [sg, IntKind.wrap_u64, wrap64]; simp; omega), rfl⟩
  · show Calls Tryz.prog 121 #[.int .i64 16, .int .u64 a] w _
    go_enter Tryz.func121, Tryz.ntmps121
    go_wp2_with (go_at_call 135; refine HK.out.mono ?_; rintro e w' ⟨rfl, rfl⟩)
    go_ret
    exact ⟨ret_int (by simp only [sg, IntKind.wrap_u64, wrap64]; simp; omega), rfl⟩
  · show Calls Tryz.prog 121 #[.int .i64 32, .int .u64 a] w _
    go_enter Tryz.func121, Tryz.ntmps121
    go_wp2_with (go_at_call 135; refine HK.out.mono ?_; rintro e w' ⟨rfl, rfl⟩)
    go_ret
    exact ⟨ret_int (by simp only [sg, IntKind.wrap_u64, wrap64]; simp; omega), rfl⟩
  · show Calls Tryz.prog 121 #[.int .i64 64, .int .u64 a] w _
    go_enter Tryz.func121, Tryz.ntmps121
    go_wp2_with (go_at_call 135; refine HK.out.mono ?_; rintro e w' ⟨rfl, rfl⟩)
    go_ret
    exact ⟨ret_int (by simp only [sg, wrap64]; simp; omega), rfl⟩
end Go.Proofs.YtlhakbkdlgejpaaGreatDoor
namespace Go.Proofs.YtlhakbkdlgejpaaGreatDoor
open Go.RowKit
theorem div_zero (n : Nat) (op : Int) (a : Nat) (w : World) :
    Calls Tryz.prog 174 #[.int .i64 n, .int .i64 op, .int .u64 a, .int .u64 0] w fun e w' => e = .returned (.tuple #[.int .u64 0, .int .i64 41]) ∧ w = w' := by
  go_enter Tryz.func174, Tryz.ntmps174
  go_wp2
  go_ret2
  exact ⟨rfl, rfl⟩
theorem wrap_nat {q : Nat} (h : q < 18446744073709551616) : IntKind.u64.wrap (q : Int) = (q : Int) := by
  rw [IntKind.wrap_u64]; omega
/-- A quotient or a rest without signs, cut at the end. -/
theorem div_u (n : Nat) (hn : Okn n) (a b : Nat) (ha : a < 2 ^ n) (hb : b ≠ 0) (w : World) :
    Calls Tryz.prog 174 #[.int .i64 n, .int .i64 5, .int .u64 a, .int .u64 b] w fun e w' => e = .returned (.tuple #[.int .u64 ((a / b : Nat) : Int), .int .i64 0]) ∧ w = w' := by
  obtain ⟨h1, h2, h3, h4⟩ := pow_lt64 hn
  have hd : a / b ≤ a := Nat.div_le_self _ _
  have HC := hid (cut_any n hn (a / b) (by omega) w)
  rw [Nat.mod_eq_of_lt (by omega)] at HC
  have hne : ((b : Int) == 0) = false := by simp; omega
  have hb0 : 0 < (b : Int) := by omega
  obtain ⟨q, hq⟩ : ∃ q : Nat, q = a / b := ⟨_, rfl⟩
  have hqq : (a : Int) / (b : Int) = (q : Int) := by rw [hq]; simp
  have hqw := wrap_nat (show q < 18446744073709551616 by omega)
  rw [← hq] at HC ⊢
  clear h1 h2 h3 h4 ha hd hq
  go_enter Tryz.func174, Tryz.ntmps174
  go_wp2_with (go_at_call 136; refine HC.out.mono ?_; rintro e w' ⟨rfl, rfl⟩)
  go_ret2
  exact ⟨rfl, rfl⟩
theorem rem_u (n : Nat) (hn : Okn n) (a b : Nat) (ha : a < 2 ^ n) (hb : b ≠ 0) (w : World) :
    Calls Tryz.prog 174 #[.int .i64 n, .int .i64 7, .int .u64 a, .int .u64 b] w fun e w' => e = .returned (.tuple #[.int .u64 ((a % b : Nat) : Int), .int .i64 0]) ∧ w = w' := by
  obtain ⟨h1, h2, h3, h4⟩ := pow_lt64 hn
  have hd : a % b ≤ a := Nat.mod_le _ _
  have HC := hid (cut_any n hn (a % b) (by omega) w)
  rw [Nat.mod_eq_of_lt (show a % b < 2 ^ n by omega)] at HC
  have hne : ((b : Int) == 0) = false := by simp; omega
  have hb0 : 0 < (b : Int) := by omega
  obtain ⟨q, hq⟩ : ∃ q : Nat, q = a % b := ⟨_, rfl⟩
  have hqq : (a : Int) % (b : Int) = (q : Int) := by rw [hq]; simp
  rw [← hq] at HC ⊢
  clear h1 h2 h3 h4 ha hd hq
  go_enter Tryz.func174, Tryz.ntmps174
  go_wp2_with (go_at_call 136; refine HC.out.mono ?_; rintro e w' ⟨rfl, rfl⟩)
  go_ret2
  exact ⟨rfl, rfl⟩
theorem natAbs_pos_of {n b : Nat} (hb : b ≠ 0) (hlt : b < 2 ^ n) : 0 < (sg n b).natAbs := by
  rw [sg_abs hlt]; split <;> omega
theorem size_le {n x : Nat} (hn : Okn n) (hx : x < 2 ^ n) : (sg n x).natAbs ≤ 2 ^ (n - 1) := by
  obtain ⟨h1, h2, h3, h4⟩ := pow_lt64 hn
  rw [sg_abs hx]; split <;> omega
set_option maxHeartbeats 800000 in
theorem rem_s (n : Nat) (hn : Okn n) (a b : Nat) (ha : a < 2 ^ n) (hb : b ≠ 0) (hbn : b < 2 ^ n) (w : World) :
    Calls Tryz.prog 174 #[.int .i64 n, .int .i64 6, .int .u64 a, .int .u64 b] w fun e w' => e = .returned (.tuple #[.int .u64 ((toN n ((sg n a).tmod (sg n b)) : Nat) : Int), .int .i64 0]) ∧ w = w' := by
  obtain ⟨h1, h2, h3, h4⟩ := pow_lt64 hn
  have hne : ((b : Int) == 0) = false := by simp; omega
  have HA := hid (size_any n hn a ha w)
  have HB := hid (size_any n hn b hbn w)
  have hA := size_le hn ha
  have hB0 := natAbs_pos_of hb hbn
  obtain ⟨A, hAe⟩ : ∃ A : Nat, A = (sg n a).natAbs := ⟨_, rfl⟩
  obtain ⟨B, hBe⟩ : ∃ B : Nat, B = (sg n b).natAbs := ⟨_, rfl⟩
  obtain ⟨q, hq⟩ : ∃ q : Nat, q = A % B := ⟨_, rfl⟩
  have hqA : q ≤ A := by rw [hq]; exact Nat.mod_le _ _
  have hqq : (A : Int) % (B : Int) = (q : Int) := by rw [hq]; simp
  by_cases hs : sg n a < 0
  · have HN := hid (negative_any n hn a (by omega) true (by rw [testBit_top hn ha]; simp [(sg_neg ha).1 hs]) w)
    have hv : toN n ((sg n a).tmod (sg n b)) = (18446744073709551616 - q) % 18446744073709551616 % 2 ^ n := by
      rw [tmod_negs hs, ← hAe, ← hBe, ← hq, toN_neg hn q (by omega)]
    have hw : IntKind.u64.wrap (-(q : Int)) = (((18446744073709551616 - q) % 18446744073709551616 : Nat) : Int) := by
      rw [IntKind.wrap_u64]; omega
    have HC := hid (cut_any n hn ((18446744073709551616 - q) % 18446744073709551616) (by omega) w)
    rw [hv]
    obtain ⟨r, hr⟩ : ∃ r : Nat, r = (18446744073709551616 - q) % 18446744073709551616 := ⟨_, rfl⟩
    rw [← hr] at hw HC ⊢
    rw [← hAe] at HA hA
    rw [← hBe] at HB hB0
    have hb0 : 0 < (B : Int) := by omega
    clear h1 h2 h3 h4 ha hbn hb hA hB0 hAe hBe hq hqA hs hv hr hn
    go_enter Tryz.func174, Tryz.ntmps174
    go_wp2_with (first
      | (go_at_call 202; refine HN.out.mono ?_; rintro e w' ⟨rfl, rfl⟩)
      | (go_at_call 139; ((with_reducible refine HA.out.mono ?_); rintro e w' ⟨rfl, rfl⟩))
      | (go_at_call 139; ((with_reducible refine HB.out.mono ?_); rintro e w' ⟨rfl, rfl⟩))
      | (go_at_call 136; refine HC.out.mono ?_; rintro e w' ⟨rfl, rfl⟩))
    go_ret2
    exact ⟨rfl, rfl⟩
  · have HN := hid (negative_any n hn a (by omega) false (by rw [testBit_top hn ha]; have := (not_congr (sg_neg ha)).1 hs; simp [this]) w)
    have hv : toN n ((sg n a).tmod (sg n b)) = q % 2 ^ n := by
      rw [tmod_pos hs, ← hAe, ← hBe, ← hq, toN_nat]
    have HC := hid (cut_any n hn q (by omega) w)
    rw [hv]
    rw [← hAe] at HA hA
    rw [← hBe] at HB hB0
    have hb0 : 0 < (B : Int) := by omega
    clear h1 h2 h3 h4 ha hbn hb hA hB0 hAe hBe hq hqA hs hv hn
    go_enter Tryz.func174, Tryz.ntmps174
    go_wp2_with (first
      | (go_at_call 202; refine HN.out.mono ?_; rintro e w' ⟨rfl, rfl⟩)
      | (go_at_call 139; ((with_reducible refine HA.out.mono ?_); rintro e w' ⟨rfl, rfl⟩))
      | (go_at_call 139; ((with_reducible refine HB.out.mono ?_); rintro e w' ⟨rfl, rfl⟩))
      | (go_at_call 136; refine HC.out.mono ?_; rintro e w' ⟨rfl, rfl⟩))
    go_ret2
    exact ⟨rfl, rfl⟩
theorem div_over (n : Nat) (hn : Okn n) (w : World) :
    Calls Tryz.prog 174 #[.int .i64 n, .int .i64 4, .int .u64 ((2 ^ (n - 1) : Nat) : Int), .int .u64 ((2 ^ n - 1 : Nat) : Int)] w fun e w' => e = .returned (.tuple #[.int .u64 0, .int .i64 42]) ∧ w = w' := by
  obtain ⟨h1, h2, h3, h4⟩ := pow_lt64 hn
  have HO := hid (ones_any n hn w)
  have HS := hid (sign_any n hn w)
  obtain ⟨S, hS⟩ : ∃ S : Nat, S = 2 ^ (n - 1) := ⟨_, rfl⟩
  obtain ⟨O, hO⟩ : ∃ O : Nat, O = 2 ^ n - 1 := ⟨_, rfl⟩
  have hne : ((O : Int) == 0) = false := by simp; omega
  rw [← hS, ← hO]
  rw [← hS] at HS
  rw [← hO] at HO
  clear h1 h2 h3 h4 hS hO hn
  go_enter Tryz.func174, Tryz.ntmps174
  go_wp2_with (first
    | (go_at_call 173; refine HS.out.mono ?_; rintro e w' ⟨rfl, rfl⟩)
    | (go_at_call 201; refine HO.out.mono ?_; rintro e w' ⟨rfl, rfl⟩))
  go_ret2
  exact ⟨rfl, rfl⟩
set_option maxHeartbeats 1600000 in
theorem div_s (n : Nat) (hn : Okn n) (a b : Nat) (ha : a < 2 ^ n) (hb : b ≠ 0) (hbn : b < 2 ^ n) (hno : ¬ (a = 2 ^ (n - 1) ∧ b = 2 ^ n - 1)) (w : World) :
    Calls Tryz.prog 174 #[.int .i64 n, .int .i64 4, .int .u64 a, .int .u64 b] w fun e w' => e = .returned (.tuple #[.int .u64 ((toN n ((sg n a).tdiv (sg n b)) : Nat) : Int), .int .i64 0]) ∧ w = w' := by
  obtain ⟨h1, h2, h3, h4⟩ := pow_lt64 hn
  have hne : ((b : Int) == 0) = false := by simp; omega
  have HO := hid (ones_any n hn w)
  have HS := hid (sign_any n hn w)
  have HA := hid (size_any n hn a ha w)
  have HB := hid (size_any n hn b hbn w)
  have hA := size_le hn ha
  have hB0 := natAbs_pos_of hb hbn
  obtain ⟨S, hS⟩ : ∃ S : Nat, S = 2 ^ (n - 1) := ⟨_, rfl⟩
  obtain ⟨O, hO⟩ : ∃ O : Nat, O = 2 ^ n - 1 := ⟨_, rfl⟩
  obtain ⟨A, hAe⟩ : ∃ A : Nat, A = (sg n a).natAbs := ⟨_, rfl⟩
  obtain ⟨B, hBe⟩ : ∃ B : Nat, B = (sg n b).natAbs := ⟨_, rfl⟩
  obtain ⟨q, hq⟩ : ∃ q : Nat, q = A / B := ⟨_, rfl⟩
  have hqA : q ≤ A := by rw [hq]; exact Nat.div_le_self _ _
  have hqq : (A : Int) / (B : Int) = (q : Int) := by rw [hq]; simp
  have hqw := wrap_nat (show q < 18446744073709551616 by omega)
  have hw : IntKind.u64.wrap (-(q : Int)) = (((18446744073709551616 - q) % 18446744073709551616 : Nat) : Int) := by
    rw [IntKind.wrap_u64]; omega
  have HC1 := hid (cut_any n hn ((18446744073709551616 - q) % 18446744073709551616) (by omega) w)
  have HC2 := hid (cut_any n hn q (by omega) w)
  have hv1 : ¬ (sg n a < 0 ↔ sg n b < 0) → toN n ((sg n a).tdiv (sg n b)) = (18446744073709551616 - q) % 18446744073709551616 % 2 ^ n := fun hs => by
    rw [tdiv_other hs, ← hAe, ← hBe, ← hq, toN_neg hn q (by omega)]
  have hv2 : (sg n a < 0 ↔ sg n b < 0) → toN n ((sg n a).tdiv (sg n b)) = q % 2 ^ n := fun hs => by
    rw [tdiv_same hs, ← hAe, ← hBe, ← hq, toN_nat]
  obtain ⟨r, hr⟩ : ∃ r : Nat, r = (18446744073709551616 - q) % 18446744073709551616 := ⟨_, rfl⟩
  have hNa := negative_any n hn a (by omega) _ (testBit_top hn ha) w
  have hNb := negative_any n hn b (by omega) _ (testBit_top hn hbn) w
  rw [sg_neg ha, sg_neg hbn] at hv1 hv2
  rw [← hS] at HS hNa hNb hv1 hv2 hno
  rw [← hO] at HO hno
  rw [← hr] at HC1 hw hv1
  rw [← hAe] at HA
  rw [← hBe] at HB hB0
  obtain ⟨V, hV⟩ : ∃ V : Nat, V = toN n ((sg n a).tdiv (sg n b)) := ⟨_, rfl⟩
  rw [← hV] at hv1 hv2 ⊢
  have hb0 : 0 < (B : Int) := by omega
  have HV1 := hid hv1
  have HV2 := hid hv2
  clear hv1 hv2 h1 h2 h3 h4 ha hbn hb hA hB0 hAe hBe hq hqA hr hn hS hO hV
  have hor : ((a : Int) == (S : Int)) = true ∧ ((b : Int) == (O : Int)) = false ∨ ((a : Int) == (S : Int)) = false := by
    by_cases hoa : a = S
    · exact .inl ⟨by simp [hoa], by have : ¬ b = O := fun h => hno ⟨hoa, h⟩
                                    simp; omega⟩
    · exact .inr (by simp; omega)
  clear hno
  by_cases hca : S ≤ a <;> by_cases hcb : S ≤ b
  all_goals
    simp only [hca, hcb, decide_true, decide_false] at hNa hNb
    have HNa := hid hNa
    have HNb := hid hNb
    clear hNa hNb
  · rw [HV2.out (by simp [hca, hcb])]
    clear HV1 HV2 hca hcb
    rcases hor with ⟨ea, eb⟩ | ea
    all_goals
      go_enter Tryz.func174, Tryz.ntmps174
      go_wp2_with (first
        | (go_at_call 173; refine HS.out.mono ?_; rintro e w' ⟨rfl, rfl⟩)
        | (go_at_call 201; refine HO.out.mono ?_; rintro e w' ⟨rfl, rfl⟩)
        | (go_at_call 202; ((with_reducible refine HNa.out.mono ?_); rintro e w' ⟨rfl, rfl⟩))
        | (go_at_call 202; ((with_reducible refine HNb.out.mono ?_); rintro e w' ⟨rfl, rfl⟩))
        | (go_at_call 139; ((with_reducible refine HA.out.mono ?_); rintro e w' ⟨rfl, rfl⟩))
        | (go_at_call 139; ((with_reducible refine HB.out.mono ?_); rintro e w' ⟨rfl, rfl⟩))
        | (go_at_call 136; refine HC2.out.mono ?_; rintro e w' ⟨rfl, rfl⟩))
      go_ret2
      exact ⟨rfl, rfl⟩
  · rw [HV1.out (by simp [hca, hcb])]
    clear HV1 HV2 hca hcb
    rcases hor with ⟨ea, eb⟩ | ea
    all_goals
      go_enter Tryz.func174, Tryz.ntmps174
      go_wp2_with (first
        | (go_at_call 173; refine HS.out.mono ?_; rintro e w' ⟨rfl, rfl⟩)
        | (go_at_call 201; refine HO.out.mono ?_; rintro e w' ⟨rfl, rfl⟩)
        | (go_at_call 202; ((with_reducible refine HNa.out.mono ?_); rintro e w' ⟨rfl, rfl⟩))
        | (go_at_call 202; ((with_reducible refine HNb.out.mono ?_); rintro e w' ⟨rfl, rfl⟩))
        | (go_at_call 139; ((with_reducible refine HA.out.mono ?_); rintro e w' ⟨rfl, rfl⟩))
        | (go_at_call 139; ((with_reducible refine HB.out.mono ?_); rintro e w' ⟨rfl, rfl⟩))
        | (go_at_call 136; refine HC1.out.mono ?_; rintro e w' ⟨rfl, rfl⟩))
      go_ret2
      exact ⟨rfl, rfl⟩
  · rw [HV1.out (by simp [hca, hcb])]
    clear HV1 HV2 hca hcb
    rcases hor with ⟨ea, eb⟩ | ea
    all_goals
      go_enter Tryz.func174, Tryz.ntmps174
      go_wp2_with (first
        | (go_at_call 173; refine HS.out.mono ?_; rintro e w' ⟨rfl, rfl⟩)
        | (go_at_call 201; refine HO.out.mono ?_; rintro e w' ⟨rfl, rfl⟩)
        | (go_at_call 202; ((with_reducible refine HNa.out.mono ?_); rintro e w' ⟨rfl, rfl⟩))
        | (go_at_call 202; ((with_reducible refine HNb.out.mono ?_); rintro e w' ⟨rfl, rfl⟩))
        | (go_at_call 139; ((with_reducible refine HA.out.mono ?_); rintro e w' ⟨rfl, rfl⟩))
        | (go_at_call 139; ((with_reducible refine HB.out.mono ?_); rintro e w' ⟨rfl, rfl⟩))
        | (go_at_call 136; refine HC1.out.mono ?_; rintro e w' ⟨rfl, rfl⟩))
      go_ret2
      exact ⟨rfl, rfl⟩
  · rw [HV2.out (by simp [hca, hcb])]
    clear HV1 HV2 hca hcb
    rcases hor with ⟨ea, eb⟩ | ea
    all_goals
      go_enter Tryz.func174, Tryz.ntmps174
      go_wp2_with (first
        | (go_at_call 173; refine HS.out.mono ?_; rintro e w' ⟨rfl, rfl⟩)
        | (go_at_call 201; refine HO.out.mono ?_; rintro e w' ⟨rfl, rfl⟩)
        | (go_at_call 202; ((with_reducible refine HNa.out.mono ?_); rintro e w' ⟨rfl, rfl⟩))
        | (go_at_call 202; ((with_reducible refine HNb.out.mono ?_); rintro e w' ⟨rfl, rfl⟩))
        | (go_at_call 139; ((with_reducible refine HA.out.mono ?_); rintro e w' ⟨rfl, rfl⟩))
        | (go_at_call 139; ((with_reducible refine HB.out.mono ?_); rintro e w' ⟨rfl, rfl⟩))
        | (go_at_call 136; refine HC2.out.mono ?_; rintro e w' ⟨rfl, rfl⟩))
      go_ret2
      exact ⟨rfl, rfl⟩
/-- divided: the document's quotients and rests. -/
theorem divided_any (n : Nat) (hn : Okn n) (op : Nat) (h1 : 4 ≤ op) (h2 : op ≤ 7) (a b : Nat) (ha : a < 2 ^ n) (hbn : b < 2 ^ n) (w : World) :
    Calls Tryz.prog 174 #[.int .i64 n, .int .i64 op, .int .u64 a, .int .u64 b] w fun e w' => e = .returned (.tuple #[.int .u64 ((divR n op a b).1 : Nat), .int .i64 ((divR n op a b).2 : Nat)]) ∧ w = w' := by
  by_cases hb : b = 0
  · subst hb
    exact div_zero n op a w
  · have hop : op = 4 ∨ op = 5 ∨ op = 6 ∨ op = 7 := by omega
    rcases hop with rfl | rfl | rfl | rfl
    · by_cases hov : a = 2 ^ (n - 1) ∧ b = 2 ^ n - 1
      · rw [divR, if_neg hb, if_neg (by decide), if_neg (by decide), if_neg (by decide), if_pos hov]
        obtain ⟨rfl, rfl⟩ := hov
        exact div_over n hn w
      · rw [divR, if_neg hb, if_neg (by decide), if_neg (by decide), if_neg (by decide), if_neg hov]
        exact div_s n hn a b ha hb hbn hov w
    · rw [divR, if_neg hb, if_pos rfl]
      exact div_u n hn a b ha hb w
    · rw [divR, if_neg hb, if_neg (by decide), if_neg (by decide), if_pos rfl]
      exact rem_s n hn a b ha hb hbn w
    · rw [divR, if_neg hb, if_neg (by decide), if_pos rfl]
      exact rem_u n hn a b ha hb w
end Go.Proofs.YtlhakbkdlgejpaaGreatDoor
namespace Go.Proofs.YtlhakbkdlgejpaaGreatDoor
open Go.RowKit
/-- A number that is s when it is cut. -/
def Cuts (n s : Nat) (w : World) (e : Ending) (w' : World) : Prop := ∃ v : Nat, e = .returned (.int .u64 (v : Int)) ∧ v < 18446744073709551616 ∧ v % 2 ^ n = s ∧ w = w'
theorem cuts_nat {n : Nat} {w : World} {s v : Nat} {z : Int} (hz : z = (v : Int)) (hv : v < 18446744073709551616) (h : v % 2 ^ n = s) : Cuts n s w (.returned (.int .u64 z)) w :=
  ⟨v, by rw [hz], hv, h, rfl⟩
theorem mod_mod64 {n : Nat} (hn : Okn n) (x : Nat) : x % 18446744073709551616 % 2 ^ n = x % 2 ^ n := by
  apply Nat.mod_mod_of_dvd
  rcases hn with rfl | rfl | rfl | rfl <;> decide
theorem wrap_toN {n : Nat} (hn : Okn n) (z : Int) : (z % 18446744073709551616).toNat % 2 ^ n = toN n z := by
  unfold toN
  rcases hn with rfl | rfl | rfl | rfl <;> simp <;> omega
theorem cuts_wrap {n : Nat} (hn : Okn n) {w : World} {s : Nat} {z : Int} (h : toN n z = s) : Cuts n s w (.returned (.int .u64 (IntKind.u64.wrap z))) w := by
  refine cuts_nat (v := (z % 18446744073709551616).toNat) (by rw [IntKind.wrap_u64]; omega) (by omega) ?_
  rw [wrap_toN hn, h]
theorem shl_u (n : Nat) (hn : Okn n) (a b : Nat) (w : World) :
    Calls Tryz.prog 175 #[.int .i64 n, .int .i64 11, .int .u64 a, .int .u64 b] w (Cuts n (shiftR n 11 a (b % n)) w) := by
  have hn8 := hn.le
  obtain ⟨k, hk⟩ : ∃ k : Nat, k = b % n := ⟨_, rfl⟩
  have hkn : k < n := by rw [hk]; exact Nat.mod_lt _ (by omega)
  have hkk : (b : Int) % (n : Int) = (k : Int) := by rw [hk]; simp
  have hnw := wrap_nat (show n < 18446744073709551616 by omega)
  have hn0 : 0 < (n : Int) := by omega
  have hk64 : k ≤ 63 := by omega
  rw [← hk]
  have HN := hid hn
  clear hk hn
  go_enter Tryz.func175, Tryz.ntmps175
  go_wp2
  go_ret
  exact cuts_wrap HN.out (by
    rw [shiftR, if_pos rfl, ← toN_nat]
    simp)
theorem sar_u (n : Nat) (hn : Okn n) (a b : Nat) (ha : a < 2 ^ n) (w : World) :
    Calls Tryz.prog 175 #[.int .i64 n, .int .i64 12, .int .u64 a, .int .u64 b] w (Cuts n (shiftR n 12 a (b % n)) w) := by
  obtain ⟨h1, h2, h3, h4⟩ := pow_lt64 hn
  have hn8 := hn.le
  obtain ⟨k, hk⟩ : ∃ k : Nat, k = b % n := ⟨_, rfl⟩
  have hkn : k < n := by rw [hk]; exact Nat.mod_lt _ (by omega)
  have hkk : (b : Int) % (n : Int) = (k : Int) := by rw [hk]; simp
  have hnw := wrap_nat (show n < 18446744073709551616 by omega)
  have hn0 : 0 < (n : Int) := by omega
  have hk64 : k ≤ 63 := by omega
  have HG := hid (Signed_ok n hn a (by omega) w)
  rw [← hk]
  rw [Nat.mod_eq_of_lt ha] at HG
  have HN := hid hn
  clear h1 h2 h3 h4 hk hn ha
  go_enter Tryz.func175, Tryz.ntmps175
  go_wp2_with (go_at_call 121; refine HG.out.mono ?_; rintro e w' ⟨rfl, rfl⟩)
  go_ret
  exact cuts_wrap HN.out (by
    rw [shiftR, if_neg (by decide), if_pos rfl]
    simp)
theorem div_pow_cast (a k : Nat) : (a : Int) / 2 ^ k = ((a / 2 ^ k : Nat) : Int) := by simp
theorem shr_u (n : Nat) (hn : Okn n) (a b : Nat) (ha : a < 2 ^ n) (w : World) :
    Calls Tryz.prog 175 #[.int .i64 n, .int .i64 13, .int .u64 a, .int .u64 b] w (Cuts n (shiftR n 13 a (b % n)) w) := by
  obtain ⟨h1, h2, h3, h4⟩ := pow_lt64 hn
  have hn8 := hn.le
  obtain ⟨k, hk⟩ : ∃ k : Nat, k = b % n := ⟨_, rfl⟩
  have hkn : k < n := by rw [hk]; exact Nat.mod_lt _ (by omega)
  have hkk : (b : Int) % (n : Int) = (k : Int) := by rw [hk]; simp
  have hnw := wrap_nat (show n < 18446744073709551616 by omega)
  have hn0 : 0 < (n : Int) := by omega
  have hk64 : k ≤ 63 := by omega
  have hd : a / 2 ^ k ≤ a := Nat.div_le_self _ _
  rw [← hk]
  have HD := hid (show a / 2 ^ k < 18446744073709551616 ∧ a / 2 ^ k < 2 ^ n from ⟨by omega, by omega⟩)
  clear h1 h2 h3 h4 hk hn ha hd
  go_enter Tryz.func175, Tryz.ntmps175
  go_wp2
  go_ret
  exact cuts_nat (div_pow_cast a k) HD.out.1 (by
    rw [shiftR, if_neg (by decide), if_neg (by decide), if_pos rfl, Nat.mod_eq_of_lt HD.out.2])
theorem or_wraps {n : Nat} (hn : Okn n) (a m j : Nat) (ha : a < 18446744073709551616) : ∃ v : Nat, bits .or .u64 (IntKind.u64.wrap ((a : Int) * 2 ^ m)) ((a : Int) / 2 ^ j) = (v : Int) ∧ v < 18446744073709551616 ∧ v % 2 ^ n = ((a * 2 ^ m) ||| (a / 2 ^ j)) % 2 ^ n := by
  have e1 : IntKind.u64.wrap ((a : Int) * 2 ^ m) = ((a * 2 ^ m % 18446744073709551616 : Nat) : Int) := by
    rw [IntKind.wrap_u64]; simp
  have hd : a / 2 ^ j ≤ a := Nat.div_le_self _ _
  refine ⟨(a * 2 ^ m % 18446744073709551616) ||| (a / 2 ^ j), ?_, ?_, ?_⟩
  · rw [e1, div_pow_cast, bits_or_u64_nat _ _ (Nat.mod_lt _ (by decide)) (by omega)]
  · exact Nat.or_lt_two_pow (n := 64) (Nat.mod_lt _ (by decide)) (by omega)
  · rw [Nat.or_mod_two_pow, mod_mod64 hn, ← Nat.or_mod_two_pow]
theorem rotl_u (n : Nat) (hn : Okn n) (a b : Nat) (ha : a < 2 ^ n) (w : World) :
    Calls Tryz.prog 175 #[.int .i64 n, .int .i64 14, .int .u64 a, .int .u64 b] w (Cuts n (shiftR n 14 a (b % n)) w) := by
  obtain ⟨h1, h2, h3, h4⟩ := pow_lt64 hn
  have hn8 := hn.le
  obtain ⟨k, hk⟩ : ∃ k : Nat, k = b % n := ⟨_, rfl⟩
  have hkn : k < n := by rw [hk]; exact Nat.mod_lt _ (by omega)
  have hkk : (b : Int) % (n : Int) = (k : Int) := by rw [hk]; simp
  have hnw := wrap_nat (show n < 18446744073709551616 by omega)
  have hn0 : 0 < (n : Int) := by omega
  have hk64 : k ≤ 63 := by omega
  rw [← hk]
  have HV := hid (or_wraps hn a k (n - k) (by omega))
  clear h1 h2 h3 h4 hk hn ha
  go_enter Tryz.func175, Tryz.ntmps175
  go_wp2
  go_ret
  obtain ⟨v, e, hv, hc⟩ := HV.out
  exact cuts_nat e hv (by
    rw [shiftR, if_neg (by decide), if_neg (by decide), if_neg (by decide), if_pos rfl, hc])
theorem rotr_u (n : Nat) (hn : Okn n) (a b : Nat) (ha : a < 2 ^ n) (w : World) :
    Calls Tryz.prog 175 #[.int .i64 n, .int .i64 15, .int .u64 a, .int .u64 b] w (Cuts n (shiftR n 15 a (b % n)) w) := by
  obtain ⟨h1, h2, h3, h4⟩ := pow_lt64 hn
  have hn8 := hn.le
  obtain ⟨k, hk⟩ : ∃ k : Nat, k = b % n := ⟨_, rfl⟩
  have hkn : k < n := by rw [hk]; exact Nat.mod_lt _ (by omega)
  have hkk : (b : Int) % (n : Int) = (k : Int) := by rw [hk]; simp
  have hnw := wrap_nat (show n < 18446744073709551616 by omega)
  have hn0 : 0 < (n : Int) := by omega
  have hk64 : k ≤ 63 := by omega
  rw [← hk]
  have HV := hid (or_wraps hn a (n - k) (n - (n - k)) (by omega))
  have HK := hid (show n - (n - k) = k by omega)
  clear h1 h2 h3 h4 hk hn ha
  go_enter Tryz.func175, Tryz.ntmps175
  go_wp2
  go_ret
  obtain ⟨v, e, hv, hc⟩ := HV.out
  exact cuts_nat e hv (by
    rw [shiftR, if_neg (by decide), if_neg (by decide), if_neg (by decide), if_neg (by decide), hc, HK.out])
/-- shifted: the document's number, when it is cut. -/
theorem shifted_any (n : Nat) (hn : Okn n) (op : Nat) (h1 : 11 ≤ op) (h2 : op ≤ 15) (a b : Nat) (ha : a < 2 ^ n) (w : World) :
    Calls Tryz.prog 175 #[.int .i64 n, .int .i64 op, .int .u64 a, .int .u64 b] w (Cuts n (shiftR n op a (b % n)) w) := by
  have hop : op = 11 ∨ op = 12 ∨ op = 13 ∨ op = 14 ∨ op = 15 := by omega
  rcases hop with rfl | rfl | rfl | rfl | rfl
  · exact shl_u n hn a b w
  · exact sar_u n hn a b ha w
  · exact shr_u n hn a b ha w
  · exact rotl_u n hn a b ha w
  · exact rotr_u n hn a b ha w
end Go.Proofs.YtlhakbkdlgejpaaGreatDoor
