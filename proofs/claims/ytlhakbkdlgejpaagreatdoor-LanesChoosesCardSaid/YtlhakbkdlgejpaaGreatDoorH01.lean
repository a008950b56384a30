/-
  Math, LMath, Small, Div, Shift, SatMath, Exit, Bin, BinAny, LSmall, RefSmall, RefList, LSplit: merged, what the law does not reach left out (each text says what it holds where it lies in wip). No condition.
-/
import Derived.Laws.BitsLemmas
import Derived.Laws.Bits64
import Derived.Laws.Bits64b
import Derived.Test.YtlhakbkdlgejpaaGreatDoorProg
import Derived.WalkKit
import Derived.WalkSpells
import Derived.WalkLawsBesides
import Derived.Test.YtlhakbkdlgejpaaGreatDoorRows
import Derived.Lib.UnsafeStr
import Derived.Laws.AppendOwnNone
import Derived.OwnWalk
set_option linter.unusedSimpArgs false
set_option linter.unusedVariables false
set_option maxRecDepth 100000
namespace Go.Proofs.YtlhakbkdlgejpaaGreatDoor
open Go
/-- There are integers of so many bits. -/
def Okn (n : Nat) : Prop := n = 8 ∨ n = 16 ∨ n = 32 ∨ n = 64
instance (n : Nat) : Decidable (Okn n) := by unfold Okn; exact inferInstance
theorem Okn.le {n : Nat} (h : Okn n) : 8 ≤ n ∧ n ≤ 64 := by unfold Okn at h; omega
/-- The value with a sign. -/
def sg (n a : Nat) : Int := if 2 ^ (n - 1) ≤ a then (a : Int) - (2 ^ n : Nat) else a
/-- Cut. -/
def toN (n : Nat) (z : Int) : Nat := (z % (2 ^ n : Nat)).toNat
/-- Quotients and rests; the error. -/
def divR (n op a b : Nat) : Nat × Nat :=
  if b = 0 then (0, 41)
  else if op = 5 then (a / b, 0)
  else if op = 7 then (a % b, 0)
  else if op = 6 then (toN n ((sg n a).tmod (sg n b)), 0)
  else if a = 2 ^ (n - 1) ∧ b = 2 ^ n - 1 then (0, 42) else (toN n ((sg n a).tdiv (sg n b)), 0)
/-- Shifted and rotated by k. -/
def shiftR (n op a k : Nat) : Nat :=
  if op = 11 then a * 2 ^ k % 2 ^ n
  else if op = 12 then toN n (sg n a / (2 ^ k : Nat))
  else if op = 13 then a / 2 ^ k
  else if op = 14 then ((a * 2 ^ k) ||| (a / 2 ^ (n - k))) % 2 ^ n
  else ((a * 2 ^ (n - k)) ||| (a / 2 ^ k)) % 2 ^ n
/-- The nearest number with a sign. -/
def clampS (n : Nat) (z : Int) : Int := if z < -((2 ^ (n - 1) : Nat) : Int) then -((2 ^ (n - 1) : Nat) : Int) else if ((2 ^ (n - 1) : Nat) : Int) - 1 < z then ((2 ^ (n - 1) : Nat) : Int) - 1 else z
/-- Sums and differences that are held. -/
def satR (n op a b : Nat) : Nat :=
  if op = 16 then toN n (clampS n (sg n a + sg n b))
  else if op = 18 then toN n (clampS n (sg n a - sg n b))
  else if op = 17 then (if 2 ^ n - 1 < a + b then 2 ^ n - 1 else a + b)
  else a - b
/-- The smaller and the larger one. -/
def mmR (n op a b : Nat) : Nat :=
  if op = 20 then (if sg n a < sg n b then a else b)
  else if op = 22 then (if sg n a < sg n b then b else a)
  else if op = 21 then (if a < b then a else b)
  else (if a < b then b else a)
/-- What two cut numbers come to; the error. -/
def binR (n op a b : Nat) : Nat × Nat :=
  if op = 1 then ((a + b) % 2 ^ n, 0)
  else if op = 2 then ((a + (2 ^ n - b)) % 2 ^ n, 0)
  else if op = 3 then (a * b % 2 ^ n, 0)
  else if op ≤ 7 then divR n op a b
  else if op = 8 then (a &&& b, 0)
  else if op = 9 then (a ||| b, 0)
  else if op = 10 then (a ^^^ b, 0)
  else if op ≤ 15 then (shiftR n op a (b % n), 0)
  else if op ≤ 19 then (satR n op a b, 0)
  else if op ≤ 23 then (mmR n op a b, 0)
  else if op = 24 then ((a + b + 1) / 2, 0)
  else (toN n (clampS n ((sg n a * sg n b + 16384) / 32768)), 0)
theorem pow_lt64 {n : Nat} (hn : Okn n) : 2 ^ (n - 1) < 18446744073709551616 ∧ 0 < 2 ^ (n - 1) ∧ 2 ^ n ≤ 18446744073709551616 ∧ 2 ^ n = 2 * 2 ^ (n - 1) := by
  rcases hn with rfl | rfl | rfl | rfl <;> decide
theorem testBit_top {n x : Nat} (hn : Okn n) (hx : x < 2 ^ n) : x.testBit (n - 1) = decide (2 ^ (n - 1) ≤ x) := by
  obtain ⟨_, _, _, h⟩ := pow_lt64 hn
  rw [h] at hx
  generalize hP : 2 ^ (n - 1) = P at *
  rw [Nat.testBit_eq_decide_div_mod_eq, hP]
  by_cases hc : P ≤ x
  · have : x / P = 1 := by
      rw [Nat.div_eq_iff (by omega)]; omega
    simp [this, hc]
  · have : x / P = 0 := Nat.div_eq_of_lt (by omega)
    simp [this, hc]
theorem neg_mod {n x : Nat} (hn : Okn n) (hx : x < 2 ^ n) (hc : 2 ^ (n - 1) ≤ x) : (18446744073709551616 - x) % 18446744073709551616 % 2 ^ n = 2 ^ n - x := by
  rcases hn with rfl | rfl | rfl | rfl <;> simp at hx hc ⊢ <;> omega
end Go.Proofs.YtlhakbkdlgejpaaGreatDoor
namespace Go.Proofs.YtlhakbkdlgejpaaGreatDoor
open Go
/-- k lanes of n bits in one number: of lane 0 the lowest bits. -/
def packF (n : Nat) : Nat → (Nat → Nat) → Nat
  | 0, _ => 0
  | k + 1, F => packF n k F + 2 ^ (n * k) * (F k % 2 ^ n)
/-- The i-th lane of a number. -/
def laneN (n x i : Nat) : Nat := x / 2 ^ (n * i) % 2 ^ n
/-- The i-th lane of both halves. -/
def splitF (n lo hi i : Nat) : Nat := if i < 64 / n then laneN n lo i else laneN n hi (i - 64 / n)
/-- How many lanes there are. -/
def cnt (n : Nat) : Nat := 128 / n
theorem Okn.cases {n : Nat} (h : Okn n) : (n = 8 ∧ 64 / n = 8 ∧ cnt n = 16) ∨ (n = 16 ∧ 64 / n = 4 ∧ cnt n = 8) ∨ (n = 32 ∧ 64 / n = 2 ∧ cnt n = 4) ∨ (n = 64 ∧ 64 / n = 1 ∧ cnt n = 2) := by
  rcases h with rfl | rfl | rfl | rfl <;> simp [cnt]
theorem packF_lt (n : Nat) : ∀ (k : Nat) (F : Nat → Nat), packF n k F < 2 ^ (n * k)
  | 0, F => by simp [packF]
  | k + 1, F => by
    have ih := packF_lt n k F
    have h : F k % 2 ^ n < 2 ^ n := Nat.mod_lt _ (Nat.two_pow_pos n)
    have e : 2 ^ (n * (k + 1)) = 2 ^ (n * k) * 2 ^ n := by rw [Nat.mul_add, Nat.mul_one, Nat.pow_add]
    rw [packF, e]
    calc packF n k F + 2 ^ (n * k) * (F k % 2 ^ n) < 2 ^ (n * k) + 2 ^ (n * k) * (F k % 2 ^ n) := by omega
      _ = 2 ^ (n * k) * (F k % 2 ^ n + 1) := by rw [Nat.mul_add, Nat.mul_one, Nat.add_comm]
      _ ≤ 2 ^ (n * k) * 2 ^ n := Nat.mul_le_mul_left _ h
theorem packF_congr (n : Nat) : ∀ (k : Nat) (F G : Nat → Nat), (∀ i, i < k → F i % 2 ^ n = G i % 2 ^ n) → packF n k F = packF n k G
  | 0, _, _, _ => rfl
  | k + 1, F, G, h => by
    rw [packF, packF, packF_congr n k F G (fun i hi => h i (by omega)), h k (by omega)]
/-- From the front. -/
theorem packF_front (n : Nat) : ∀ (k : Nat) (F : Nat → Nat), packF n (k + 1) F = F 0 % 2 ^ n + 2 ^ n * packF n k (fun i => F (i + 1))
  | 0, F => by simp [packF]
  | k + 1, F => by
    rw [packF, packF_front n k F, packF, Nat.add_assoc]
    congr 1
    rw [show n * (k + 1) = n + n * k by rw [Nat.mul_add]; omega, Nat.pow_add, Nat.mul_add, Nat.mul_assoc]
theorem packF_or (n k : Nat) (F : Nat → Nat) : packF n k F ||| (F k % 2 ^ n) * 2 ^ (n * k) = packF n (k + 1) F := by
  have := Nat.two_pow_add_eq_or_of_lt (packF_lt n k F) (F k % 2 ^ n)
  rw [packF, Nat.or_comm, Nat.mul_comm, ← this, Nat.add_comm]
theorem laneN_lt (n x i : Nat) : laneN n x i < 2 ^ n := Nat.mod_lt _ (Nat.two_pow_pos n)
theorem splitF_lt (n lo hi i : Nat) : splitF n lo hi i < 2 ^ n := by unfold splitF; split <;> exact laneN_lt _ _ _
theorem splitF_u64 {n : Nat} (h : Okn n) (lo hi i : Nat) : splitF n lo hi i < 18446744073709551616 :=
  Nat.lt_of_lt_of_le (splitF_lt n lo hi i) (Nat.pow_le_pow_right (by decide) h.le.2)
/-- The halves of the vector of lanes. -/
def loF (n : Nat) (F : Nat → Nat) : Nat := packF n (64 / n) F
def hiF (n : Nat) (F : Nat → Nat) : Nat := packF n (64 / n) (fun i => F (i + 64 / n))
theorem Okn.half {n : Nat} (h : Okn n) : n * (64 / n) = 64 := by rcases h with rfl | rfl | rfl | rfl <;> rfl
end Go.Proofs.YtlhakbkdlgejpaaGreatDoor
namespace Go.Proofs.YtlhakbkdlgejpaaGreatDoor
open Go.RowKit
theorem known_yes (n : Nat) (hn : Okn n) (w : World) : Calls Tryz.prog 135 #[.int .i64 n] w fun e w' => e = .returned (.bool true) ∧ w = w' := by
  rcases hn with rfl | rfl | rfl | rfl
  · show Calls Tryz.prog 135 #[.int .i64 8] w _
    go_enter Tryz.func135, Tryz.ntmps135
    go_wp2
    go_ret
    exact ⟨rfl, rfl⟩
  · show Calls Tryz.prog 135 #[.int .i64 16] w _
    go_enter Tryz.func135, Tryz.ntmps135
    go_wp2
    go_ret
    exact ⟨rfl, rfl⟩
  · show Calls Tryz.prog 135 #[.int .i64 32] w _
    go_enter Tryz.func135, Tryz.ntmps135
    go_wp2
    go_ret
    exact ⟨rfl, rfl⟩
  · show Calls Tryz.prog 135 #[.int .i64 64] w _
    go_enter Tryz.func135, Tryz.ntmps135
    go_wp2
    go_ret
    exact ⟨rfl, rfl⟩
theorem hid {p : Prop} (h : p) : Hid p := h
theorem ones_any (n : Nat) (hn : Okn n) (w : World) : Calls Tryz.prog 201 #[.int .i64 n] w fun e w' => e = .returned (.int .u64 ((2 ^ n - 1 : Nat) : Int)) ∧ w = w' := by
  rcases hn with rfl | rfl | rfl | rfl
  · show Calls Tryz.prog 201 #[.int .i64 8] w fun e w' => e = .returned (.int .u64 255) ∧ w = w'
    go_enter Tryz.func201, Tryz.ntmps201
    go_wp2
    go_ret
    exact ⟨rfl, rfl⟩
  · show Calls Tryz.prog 201 #[.int .i64 16] w fun e w' => e = .returned (.int .u64 65535) ∧ w = w'
    go_enter Tryz.func201, Tryz.ntmps201
    go_wp2
    go_ret
    exact ⟨rfl, rfl⟩
  · show Calls Tryz.prog 201 #[.int .i64 32] w fun e w' => e = .returned (.int .u64 4294967295) ∧ w = w'
    go_enter Tryz.func201, Tryz.ntmps201
    go_wp2
    go_ret
    exact ⟨rfl, rfl⟩
  · show Calls Tryz.prog 201 #[.int .i64 64] w fun e w' => e = .returned (.int .u64 18446744073709551615) ∧ w = w'
    go_enter Tryz.func201, Tryz.ntmps201
    go_wp2
    go_ret
    exact ⟨rfl, rfl⟩
theorem cut_any (n : Nat) (hn : Okn n) (a : Nat) (ha : a < 18446744073709551616) (w : World) : Calls Tryz.prog 136 #[.int .i64 n, .int .u64 a] w fun e w' => e = .returned (.int .u64 ((a % 2 ^ n : Nat) : Int)) ∧ w = w' := by
  have hb : 2 ^ n - 1 < 18446744073709551616 := by rcases hn with rfl | rfl | rfl | rfl <;> decide
  have hand : bits .and .u64 (a : Int) ((2 ^ n - 1 : Nat) : Int) = ((a % 2 ^ n : Nat) : Int) := by
    rw [bits_and_u64_nat _ _ ha hb, Nat.and_two_pow_sub_one_eq_mod]
  have HO := hid (ones_any n hn w)
  clear hb hn
  obtain ⟨m, hm⟩ : ∃ m : Nat, m = 2 ^ n - 1 := ⟨_, rfl⟩
  obtain ⟨y, hy⟩ : ∃ y : Nat, y = a % 2 ^ n := ⟨_, rfl⟩
  rw [← hm] at HO hand
  rw [← hy] at hand ⊢
  clear hm hy
  go_enter Tryz.func136, Tryz.ntmps136
  go_wp2_with (go_at_call 201; refine HO.out.mono ?_; rintro e w' ⟨rfl, rfl⟩)
  go_ret
  exact ⟨rfl, rfl⟩
theorem ret_int {k : IntKind} {a b : Int} (h : a = b) : Ending.returned (.int k a) = .returned (.int k b) := by rw [h]
theorem Signed_ok (n : Nat) (hn : Okn n) (a : Nat) (ha : a < 18446744073709551616) (w : World) :
    Calls Tryz.prog 121 #[.int .i64 n, .int .u64 a] w fun e w' => e = .returned (.int .i64 (sg n (a % 2 ^ n))) ∧ w = w' := by
  have HK := hid (known_yes n hn w)
  have ha0 : 0 ≤ (a : Int) := by omega
  have ha1 : (a : Int) < 18446744073709551616 := by omega
  rcases hn with rfl | rfl | rfl | rfl
  · show Calls Tryz.prog 121 #[.int .i64 8, .int .u64 a] w _
    go_enter Tryz.func121, Tryz.ntmps121
    go_wp2_with (go_at_call 135; refine HK.out.mono ?_; rintro e w' ⟨rfl, rfl⟩)
    go_ret
    exact ⟨ret_int (by simp only [sg, IntKind.wrap_u64, wrap64]; simp; omega), rfl⟩
  · show Calls Tryz.prog 121 #[.int .i64 16, .int .u64 a] w _
    go_enter Tryz.func121, Tryz.ntmps121
    go_wp2_with (go_at_call 135; refine HK.out.mono ?_; rintro e w' ⟨rfl, rfl⟩)
    go_ret
    exact ⟨ret_int (by simp only [sg, IntKind.wrap_u64, wrap64]; simp; omega), rfl⟩
  · show Calls Tryz.prog 121 #[.int .i64 32, .int .u64 a] w _
    go_enter Tryz.func121, Tryz.ntmps121
    go_wp2_with (go_at_call 135; refine HK.out.mono ?_; rintro e w' ⟨rfl, rfl⟩)
    go_ret
    exact ⟨ret_int (by simp only [sg, IntKind.wrap_u64, wrap64]; simp; omega), rfl⟩
  · show Calls Tryz.prog 121 #[.int .i64 64, .int .u64 a] w _
    go_enter Tryz.func121, Tryz.ntmps121
    go_wp2_with (go_at_call 135; refine HK.out.mono ?_; rintro e w' ⟨rfl, rfl⟩)
    go_ret
    exact ⟨ret_int (by simp only [sg, wrap64]; simp; omega), rfl⟩
end Go.Proofs.YtlhakbkdlgejpaaGreatDoor
namespace Go.Proofs.YtlhakbkdlgejpaaGreatDoor
open Go.RowKit
theorem wrap_nat {q : Nat} (h : q < 18446744073709551616) : IntKind.u64.wrap (q : Int) = (q : Int) := by
  rw [IntKind.wrap_u64]; omega
end Go.Proofs.YtlhakbkdlgejpaaGreatDoor
namespace Go.Proofs.YtlhakbkdlgejpaaGreatDoor
open Go.RowKit
theorem mod_mod64 {n : Nat} (hn : Okn n) (x : Nat) : x % 18446744073709551616 % 2 ^ n = x % 2 ^ n := by
  apply Nat.mod_mod_of_dvd
  rcases hn with rfl | rfl | rfl | rfl <;> decide
end Go.Proofs.YtlhakbkdlgejpaaGreatDoor
namespace Go.Proofs.YtlhakbkdlgejpaaGreatDoor
open Go
/-- A cut number with its sign bit turned over. -/
def turned (n a : Nat) : Nat := if 2 ^ (n - 1) ≤ a then a - 2 ^ (n - 1) else a + 2 ^ (n - 1)
end Go.Proofs.YtlhakbkdlgejpaaGreatDoor
namespace Go.Proofs.YtlhakbkdlgejpaaGreatDoor
open Go
theorem ex_then {K : Act → World → Prop} {Q : Exit → Act → World → Prop} {id : Nat} {a : Act} {w : World} (h : Q (.exit id) a w) : Exit.then K Q (.exit id) a w := h
theorem ex_norm {K : Act → World → Prop} {Q : Exit → Act → World → Prop} {a : Act} {w : World} (h : K a w) : Exit.then K Q .normal a w := h
theorem ex_here {Q : Exit → Act → World → Prop} {id : Nat} {a : Act} {w : World} (h : Q .normal a w) : Exit.inBlock id Q (.exit id) a w := by
  simp [Exit.inBlock, h]
theorem ex_pass {Q : Exit → Act → World → Prop} {id id' : Nat} {a : Act} {w : World} (hne : Nat.beq id' id = false) (h : Q (.exit id') a w) : Exit.inBlock id Q (.exit id') a w := by
  have : id' ≠ id := Nat.ne_of_beq_eq_false hne
  simp [Exit.inBlock, this, h]
end Go.Proofs.YtlhakbkdlgejpaaGreatDoor
namespace Go.Proofs.YtlhakbkdlgejpaaGreatDoor
open Go.RowKit
set_option maxHeartbeats 800000 in
theorem Bin_1 (n : Nat) (hn : Okn n) (a b : Nat) (ha : a < 18446744073709551616) (hb : b < 18446744073709551616) (w : World) :
    Calls Tryz.prog 108 #[.int .i64 n, .int .i64 1, .int .u64 a, .int .u64 b] w fun e w' => e = .returned (.tuple #[.int .u64 ((binR n 1 (a % 2 ^ n) (b % 2 ^ n)).1 : Nat), .int .i64 ((binR n 1 (a % 2 ^ n) (b % 2 ^ n)).2 : Nat)]) ∧ w = w' := by
  obtain ⟨h1, h2, h3, h4⟩ := pow_lt64 hn
  have HK := hid (known_yes n hn w)
  have HX := hid (cut_any n hn a ha w)
  have HY := hid (cut_any n hn b hb w)
  obtain ⟨x, hx⟩ : ∃ x : Nat, x = a % 2 ^ n := ⟨_, rfl⟩
  obtain ⟨y, hy⟩ : ∃ y : Nat, y = b % 2 ^ n := ⟨_, rfl⟩
  have hxl : x < 2 ^ n := by rw [hx]; exact Nat.mod_lt _ (Nat.two_pow_pos n)
  have hyl : y < 2 ^ n := by rw [hy]; exact Nat.mod_lt _ (Nat.two_pow_pos n)
  rw [← hx] at HX
  rw [← hy] at HY
  rw [← hx, ← hy]
  clear hx hy ha hb
  obtain ⟨v, hv⟩ : ∃ v : Nat, v = (x + y) % 18446744073709551616 := ⟨_, rfl⟩
  have hvl : v < 18446744073709551616 := by omega
  have hw : IntKind.u64.wrap ((x : Int) + (y : Int)) = (v : Int) := by rw [IntKind.wrap_u64]; omega
  have hs : (binR n 1 x y) = (v % 2 ^ n, 0) := by
    rw [binR, if_pos rfl, hv, mod_mod64 hn]
  rw [hs]
  have HC := hid (cut_any n hn v hvl w)
  obtain ⟨s, hse⟩ : ∃ s : Nat, s = v % 2 ^ n := ⟨_, rfl⟩
  rw [← hse] at HC ⊢
  clear h1 h2 h3 h4 hn hv hvl hs hse hxl hyl
  go_enter Tryz.func108, Tryz.ntmps108
  repeat' (first
    | (with_reducible refine wp_exit ?_; repeat (first | with_reducible refine ex_norm ?_ | with_reducible refine ex_then ?_ | with_reducible refine ex_here ?_ | with_reducible refine ex_pass rfl ?_))
    | (go_big_may; first
      | (go_at_call 135; refine HK.out.mono ?_; rintro e w' ⟨rfl, rfl⟩)
      | (go_at_call 136; ((with_reducible refine HX.out.mono ?_); rintro e w' ⟨rfl, rfl⟩))
      | (go_at_call 136; ((with_reducible refine HY.out.mono ?_); rintro e w' ⟨rfl, rfl⟩))
      | (go_at_call 136; ((with_reducible refine HC.out.mono ?_); rintro e w' ⟨rfl, rfl⟩)))
    | go_values | go_skip | go_guarded | go_step | go_upon | go_back | dsimp only)
  go_ret2
  exact ⟨rfl, rfl⟩
end Go.Proofs.YtlhakbkdlgejpaaGreatDoor
namespace Go.Proofs.YtlhakbkdlgejpaaGreatDoor
open Go.RowKit
/-- What two come to, by any operation; the error. -/
def binA (bits op : Int) (a b : Nat) : Nat × Nat :=
  if Okn bits.toNat ∧ 1 ≤ op ∧ op ≤ 25 ∧ (op = 25 → bits = 16) then binR bits.toNat op.toNat (a % 2 ^ bits.toNat) (b % 2 ^ bits.toNat) else (0, 1)
end Go.Proofs.YtlhakbkdlgejpaaGreatDoor
namespace Go.Proofs.YtlhakbkdlgejpaaGreatDoor
open Go.RowKit
theorem lcut_any (n : Nat) (hn : Okn n) (a : Nat) (ha : a < 18446744073709551616) (w : World) :
    Calls Tryz.prog 35 #[.int .i64 n, .int .u64 a] w fun e w' => e = .returned (.int .u64 ((a % 2 ^ n : Nat) : Int)) ∧ w = w' := by
  have hb : 2 ^ n - 1 < 18446744073709551616 := by rcases hn with rfl | rfl | rfl | rfl <;> decide
  have hand : bits .and .u64 (a : Int) ((2 ^ n - 1 : Nat) : Int) = ((a % 2 ^ n : Nat) : Int) := by
    rw [bits_and_u64_nat _ _ ha hb, Nat.and_two_pow_sub_one_eq_mod]
  clear hb
  rcases hn with rfl | rfl | rfl | rfl
  all_goals
    go_enter Tryz.func35, Tryz.ntmps35
    go_wp2
    go_ret
    exact ⟨ret_int hand, rfl⟩
theorem lcount_any (n : Nat) (hn : Okn n) (w : World) :
    Calls Tryz.prog 52 #[.int .i64 n] w fun e w' => e = .returned (.int .i64 (cnt n : Nat)) ∧ w = w' := by
  rcases hn with rfl | rfl | rfl | rfl
  all_goals
    go_enter Tryz.func52, Tryz.ntmps52
    go_wp2
    go_ret
    exact ⟨rfl, rfl⟩
end Go.Proofs.YtlhakbkdlgejpaaGreatDoor
namespace Go.Proofs.YtlhakbkdlgejpaaGreatDoor
open Go.RowKit
theorem Right_yes (n : Nat) (hn : Okn n) (w : World) : Calls Tryz.prog 196 #[.int .i64 n] w fun e w' => e = .returned (.bool true) ∧ w = w' := by
  rcases hn with rfl | rfl | rfl | rfl
  · show Calls Tryz.prog 196 #[.int .i64 8] w _
    go_enter Tryz.func196, Tryz.ntmps196
    go_wp2
    go_ret
    exact ⟨rfl, rfl⟩
  · show Calls Tryz.prog 196 #[.int .i64 16] w _
    go_enter Tryz.func196, Tryz.ntmps196
    go_wp2
    go_ret
    exact ⟨rfl, rfl⟩
  · show Calls Tryz.prog 196 #[.int .i64 32] w _
    go_enter Tryz.func196, Tryz.ntmps196
    go_wp2
    go_ret
    exact ⟨rfl, rfl⟩
  · show Calls Tryz.prog 196 #[.int .i64 64] w _
    go_enter Tryz.func196, Tryz.ntmps196
    go_wp2
    go_ret
    exact ⟨rfl, rfl⟩
theorem Cut_small (n : Nat) (hn : n < 64) (a : Nat) (w : World) :
    Calls Tryz.prog 81 #[.int .i64 n, .int .u64 a] w fun e w' => e = .returned (.int .u64 ((a % 2 ^ n : Nat) : Int)) ∧ w = w' := by
  have hne : ((n : Int) == 64) = false := by simp; omega
  obtain ⟨r, hrr⟩ : ∃ r : Nat, r = a % 2 ^ n := ⟨_, rfl⟩
  rw [← hrr]
  have HR := hid hrr
  clear hrr
  go_enter Tryz.func81, Tryz.ntmps81
  go_wp2
  go_loop [5, 6] (fun vm vi => ∃ k : Nat, k ≤ n ∧ vi = .int .i64 k ∧ vm = .int .u64 ((2 ^ k : Nat) : Int)) (fun _ vi => n - (intOf vi).toNat)
  case atStart => exact ⟨0, Nat.zero_le _, rfl, rfl⟩
  case round =>
    obtain ⟨k, hk, rfl, rfl⟩ := hrel
    have hp0 := Nat.two_pow_pos k
    by_cases hlt : k < n
    · have hp : 2 ^ k ≤ 2 ^ 62 := Nat.pow_le_pow_right (by decide) (by omega)
      have hw : IntKind.u64.wrap (((2 ^ k : Nat) : Int) * 2) = ((2 ^ (k + 1) : Nat) : Int) := by
        rw [IntKind.wrap_u64, Nat.pow_succ]; omega
      obtain ⟨m, hm⟩ : ∃ m : Nat, m = 2 ^ k := ⟨_, rfl⟩
      rw [← hm] at hw ⊢
      clear hp hp0 hm
      go_wp2
      go_round
      case rel => exact ⟨k + 1, by omega, by go_num, rfl⟩
      case measure => simp [intOf]; omega
    · obtain rfl : k = n := by omega
      have hr : (a : Int) % ((2 ^ k : Nat) : Int) = (r : Int) := by rw [HR.out]; simp
      obtain ⟨m, hm⟩ : ∃ m : Nat, m = 2 ^ k := ⟨_, rfl⟩
      rw [← hm] at hr hp0 ⊢
      have hm0 : 0 < (m : Int) := by omega
      clear hm hp0
      go_wp2
      go_ret
      exact ⟨rfl, rfl⟩
theorem Cut_any (n : Nat) (hn : Okn n) (a : Nat) (ha : a < 18446744073709551616) (w : World) :
    Calls Tryz.prog 81 #[.int .i64 n, .int .u64 a] w fun e w' => e = .returned (.int .u64 ((a % 2 ^ n : Nat) : Int)) ∧ w = w' := by
  by_cases h : n = 64
  · subst h
    rw [Nat.mod_eq_of_lt (show a < 2 ^ 64 by omega)]
    show Calls Tryz.prog 81 #[.int .i64 64, .int .u64 a] w _
    go_enter Tryz.func81, Tryz.ntmps81
    go_wp2
    go_ret
    exact ⟨rfl, rfl⟩
  · exact Cut_small n (by have := hn.le; omega) a w
theorem bit_any (a k : Nat) (hk : k ≤ 1000) (ha : a < 18446744073709551616) (w : World) :
    Calls Tryz.prog 210 #[.int .u64 a, .int .i64 k] w fun e w' => e = .returned (.int .u64 ((a / 2 ^ k % 2 : Nat) : Int)) ∧ w = w' := by
  obtain ⟨r, hrr⟩ : ∃ r : Nat, r = a / 2 ^ k % 2 := ⟨_, rfl⟩
  rw [← hrr]
  have HR := hid hrr
  clear hrr
  go_enter Tryz.func210, Tryz.ntmps210
  go_wp2
  go_loop [0, 5] (fun va vi => ∃ j : Nat, j ≤ k ∧ vi = .int .i64 j ∧ va = .int .u64 ((a / 2 ^ j : Nat) : Int)) (fun _ vi => k - (intOf vi).toNat)
  case atStart => exact ⟨0, Nat.zero_le _, rfl, by simp⟩
  case round =>
    obtain ⟨j, hj, rfl, rfl⟩ := hrel
    have hd : a / 2 ^ j ≤ a := Nat.div_le_self _ _
    by_cases hlt : j < k
    · have hx : a / 2 ^ (j + 1) = a / 2 ^ j / 2 := by rw [Nat.pow_succ, Nat.div_div_eq_div_mul]
      obtain ⟨x, hxe⟩ : ∃ x : Nat, x = a / 2 ^ j := ⟨_, rfl⟩
      rw [← hxe] at hd hx ⊢
      have hdiv : (x : Int) / 2 = ((x / 2 : Nat) : Int) := by simp
      rw [← hx] at hdiv
      have hww := wrap_nat (show a / 2 ^ (j + 1) < 18446744073709551616 by omega)
      clear hx hxe
      obtain ⟨y, hy⟩ : ∃ y : Nat, y = a / 2 ^ (j + 1) := ⟨_, rfl⟩
      rw [← hy] at hdiv hww
      have HY := hid hy
      clear hy
      go_wp2
      go_round
      case rel => exact ⟨j + 1, by omega, by go_num, by rw [HY.out]⟩
      case measure => simp [intOf]; omega
    · obtain rfl : j = k := by omega
      obtain ⟨x, hxe⟩ : ∃ x : Nat, x = a / 2 ^ j := ⟨_, rfl⟩
      rw [← hxe] at hd ⊢
      have hr : (x : Int) % 2 = (r : Int) := by rw [HR.out, hxe]; simp
      clear hxe
      go_wp2
      go_ret
      exact ⟨rfl, rfl⟩
theorem top_bit {n x : Nat} (hn : Okn n) (hx : x < 2 ^ n) : x / 2 ^ (n - 1) % 2 = if 2 ^ (n - 1) ≤ x then 1 else 0 := by
  have h := testBit_top hn hx
  rw [Nat.testBit_eq_decide_div_mod_eq] at h
  have := decide_eq_decide.1 h
  split <;> omega
set_option maxHeartbeats 800000 in
theorem RSigned_ok (n : Nat) (hn : Okn n) (a : Nat) (ha : a < 18446744073709551616) (w : World) :
    Calls Tryz.prog 143 #[.int .i64 n, .int .u64 a] w fun e w' => e = .returned (.int .i64 (sg n (a % 2 ^ n))) ∧ w = w' := by
  obtain ⟨h1, h2, h3, h4⟩ := pow_lt64 hn
  have hn8 := hn.le
  have HK := hid (Right_yes n hn w)
  have HX := hid (Cut_any n hn a ha w)
  obtain ⟨x, hx⟩ : ∃ x : Nat, x = a % 2 ^ n := ⟨_, rfl⟩
  have hxl : x < 2 ^ n := by rw [hx]; exact Nat.mod_lt _ (Nat.two_pow_pos n)
  rw [← hx] at HX ⊢
  have hc1 : ((n - 1 : Nat) : Int) = (n : Int) - 1 := by omega
  have hB := bit_any x (n - 1) (by omega) (by omega) w
  rw [hc1, top_bit hn hxl] at hB
  have hz : IntKind.u64.wrap (-(x : Int)) = (((18446744073709551616 - x) % 18446744073709551616 : Nat) : Int) := by
    rw [IntKind.wrap_u64]; omega
  by_cases hc : 2 ^ (n - 1) ≤ x
  · rw [if_pos hc] at hB
    have HB : Hid (Calls Tryz.prog 210 #[.int .u64 x, .int .i64 ((n : Int) - 1)] w fun e w' => e = .returned (.int .u64 1) ∧ w = w') := hB
    have hC := Cut_any n hn ((18446744073709551616 - x) % 18446744073709551616) (by omega) w
    rw [neg_mod hn hxl hc] at hC
    obtain ⟨z, hze⟩ : ∃ z : Nat, z = (18446744073709551616 - x) % 18446744073709551616 := ⟨_, rfl⟩
    obtain ⟨y, hy⟩ : ∃ y : Nat, y = 2 ^ n - x := ⟨_, rfl⟩
    have hs : sg n x = -((y : Int) - 1) - 1 := by unfold sg; rw [if_pos hc]; omega
    have hw1 : IntKind.u64.wrap ((y : Int) - 1) = ((y - 1 : Nat) : Int) := by rw [IntKind.wrap_u64]; omega
    have hy1 : y - 1 < 9223372036854775808 := by omega
    have hcast : ((y - 1 : Nat) : Int) = (y : Int) - 1 := by omega
    obtain ⟨t, ht⟩ : ∃ t : Nat, t = y - 1 := ⟨_, rfl⟩
    rw [← hze, ← hy] at hC
    rw [← hze] at hz
    rw [← ht] at hw1 hy1 hcast
    have hs2 : sg n x = -(t : Int) - 1 := by omega
    rw [hs2]
    have HC := hid hC
    have HT := hid hy1
    have hn1 : -9223372036854775808 ≤ -(t : Int) - 1 := by omega
    have ht1 : (t : Int) ≤ 9223372036854775807 := by omega
    clear h1 h2 h3 h4 hn hxl hx hc1 hB hc hC hze hy hs ht hs2 hcast hy1
    go_enter Tryz.func143, Tryz.ntmps143
    go_wp2_with (first
      | (go_at_call 196; refine HK.out.mono ?_; rintro e w' ⟨rfl, rfl⟩)
      | (go_at_call 81; ((with_reducible refine HX.out.mono ?_); rintro e w' ⟨rfl, rfl⟩))
      | (go_at_call 210; ((with_reducible refine HB.out.mono ?_); rintro e w' ⟨rfl, rfl⟩))
      | (go_at_call 81; ((with_reducible refine HC.out.mono ?_); rintro e w' ⟨rfl, rfl⟩)))
    go_ret
    exact ⟨ret_int (by first | rfl | (unfold wrap64; omega)), rfl⟩
  · rw [if_neg hc] at hB
    have HB : Hid (Calls Tryz.prog 210 #[.int .u64 x, .int .i64 ((n : Int) - 1)] w fun e w' => e = .returned (.int .u64 0) ∧ w = w') := hB
    have hs : sg n x = x := by unfold sg; rw [if_neg hc]
    have hx1 : (x : Int) ≤ 9223372036854775807 := by omega
    rw [hs]
    clear h1 h2 h3 h4 hn hxl hx hc1 hB hc hs hz
    go_enter Tryz.func143, Tryz.ntmps143
    go_wp2_with (first
      | (go_at_call 196; refine HK.out.mono ?_; rintro e w' ⟨rfl, rfl⟩)
      | (go_at_call 81; ((with_reducible refine HX.out.mono ?_); rintro e w' ⟨rfl, rfl⟩))
      | (go_at_call 210; ((with_reducible refine HB.out.mono ?_); rintro e w' ⟨rfl, rfl⟩)))
    go_ret
    exact ⟨ret_int (by first | rfl | (unfold wrap64; omega)), rfl⟩
end Go.Proofs.YtlhakbkdlgejpaaGreatDoor
namespace Go.Proofs.YtlhakbkdlgejpaaGreatDoor
open Go.RowKit
theorem info22 : (Tryz.prog.info? 22).map (fun i => (i.zero, i.size, i.bytes)) = some (some (.int .u64 0), 1, 8) := by kernel_rfl
/-- The cells of f 0, .., f (n - 1). -/
def fc (n : Nat) (f : Nat → Nat) : List Value := (List.range n).map fun j => Value.int .u64 (f j : Nat)
theorem fc_length (n : Nat) (f : Nat → Nat) : (fc n f).length = n := by simp [fc]
theorem fc_get {n : Nat} {f : Nat → Nat} {j : Nat} (hj : j < n) : (fc n f)[j]? = some (.int .u64 (f j : Nat)) := by
  simp [fc, hj]
theorem fc_snoc (n : Nat) (f : Nat → Nat) : fc n f ++ [.int .u64 (f n : Nat)] = fc (n + 1) f := by
  simp [fc, List.range_succ]
theorem fc_set (n : Nat) (f : Nat → Nat) (i v : Nat) : (fc n f).set i (.int .u64 (v : Nat)) = fc n (fun j => if j = i then v else f j) := by
  apply List.ext_getElem?
  intro j
  by_cases hj : j < n
  · rw [fc_get hj, List.getElem?_set]
    by_cases hij : i = j
    · subst hij
      simp [fc_length, hj]
    · rw [if_neg hij, fc_get hj]
      have : ¬ j = i := fun h => hij h.symm
      simp [this]
  · simp [fc, hj]
theorem fc_congr {n : Nat} {f g : Nat → Nat} (h : ∀ j, j < n → f j = g j) : fc n f = fc n g := by
  unfold fc
  apply List.map_congr_left
  intro j hj
  rw [h j (by simpa using hj)]
theorem fc_one (n : Nat) (f : Nat → Nat) : ∀ u ∈ fc n f, u.oneCell' = true := by
  intro u hu
  simp only [fc, List.mem_map] at hu
  obtain ⟨j, _, rfl⟩ := hu
  rfl
theorem append_u64 {w : World} {ops : Array Oper} {rest : List Oper} {o : Oper} {a : Act} {Q : Exit → Act → World → Prop} (hgd : o.guard = none) (s x : Operand)
    (ho : o.op = .call { callee := .builtin .append, args := #[s, x], argTypes := #[40, 40] }) (base : Nat) (v : Value) (n : Nat) (xs : List Value) (q : Int)
    (hown : w.ownsRow base 22 1 v n xs) (hbase : base ≤ w.heap.size) (hn : n + 1 ≤ 1000000) (hs : a.eval s = v) (hx : a.eval x = .slice (some ⟨w.heap.size, 0, none⟩) 1 1)
    (h : ∀ v' w', w'.ownsRow base 22 1 v' (n + 1) (xs ++ [.int .u64 q]) → Below base w w' → base ≤ w'.heap.size → wpList Tryz.prog ops Q rest (a.put o.dst v') w') :
    wpList Tryz.prog ops Q (o :: rest) a (w.alloc (.cells #[.int .u64 q] 22)) := by
  obtain ⟨i0, hi, hz0, hz1, hz2⟩ := info_parts info22
  have hb1 := (Below.refl base w).alloc hbase (.cells #[.int .u64 q] 22)
  refine wpList_append_own _ hgd s x 40 ho base 22 i0 (.int .u64 0) 1 8 Tryz.underlying40 hi hz0 hz1 hz2 rfl (by decide) v n xs hs (hown.alloc _) ⟨w.heap.size, 0, none⟩ 1 1 [.int .u64 q] hx rfl (cell_one_new _ _ _)
    (fun u hu => by simp at hu; subst hu; rfl) (by unfold maxLen; omega) (by omega) (by simp; omega) ?_
  intro v' w1 hown' hgrow _
  exact h v' w1 hown' (hb1.grown hgrow (by simp; omega) (fun k hk => (hown.lt k hk).1)) (by have := hgrow.size; simp at this; omega)
theorem owned_at {w : World} {base : Nat} {e : TypeId} {v : Value} {n : Nat} {xs : List Value} (h : w.ownsRow base e 1 v n xs) (hn : 1 ≤ n) : ∃ g cap, v = .slice (some ⟨g, 0, none⟩) n cap := by
  rcases h.2 with ⟨_, h⟩ | ⟨g, cap, _, h, _⟩
  · omega
  · exact ⟨g, cap, h⟩
end Go.Proofs.YtlhakbkdlgejpaaGreatDoor
namespace Go.Proofs.YtlhakbkdlgejpaaGreatDoor
open Go.RowKit
/-- A value: its type, the halves, whether it is null. -/
def vv (t : Int) (lo hi : Nat) (nl : Bool) : Value := .agg #[.int .i64 t, .int .u64 lo, .int .u64 hi, .bool nl]
/-- n lanes in new memory. -/
def LPost (w : World) (n : Nat) (F : Nat → Nat) (e : Ending) (w' : World) : Prop := ∃ v, e = .returned v ∧ w'.ownsRow w.heap.size 22 1 v n (fc n F) ∧ Below w.heap.size w w'
theorem split_step {n : Nat} (hn : Okn n) (lo hi h j : Nat) (hh : h < 2) (hj : j < 64 / n) :
    ((if h = 0 then lo else hi) / 2 ^ (n * j)) % 2 ^ n = splitF n lo hi (h * (64 / n) + j) := by
  unfold splitF laneN
  rcases (show h = 0 ∨ h = 1 by omega) with rfl | rfl
  · rw [Nat.zero_mul, Nat.zero_add, if_pos rfl, if_pos hj]
  · rw [Nat.one_mul, if_neg (by omega), if_neg (by omega), Nat.add_sub_cancel_left]
theorem wrap64_nat' {k : Nat} (h : k ≤ 128) : wrap64 (k : Int) = k := by unfold wrap64; omega
theorem run_idx2 (a b : Value) (w : World) : (Instr.index 65 (.agg #[a, b]) (.int .i64 0)).run Tryz.prog w = .ok a w ∧ (Instr.index 65 (.agg #[a, b]) (.int .i64 1)).run Tryz.prog w = .ok b w := by
  have hs : ∀ w, (sizeOf 22).run Tryz.prog w = .ok 1 w := fun _ => by kernel_rfl
  constructor <;> simp [Instr.index, asIntOf, run_underlying Tryz.underlying65, part, hs]
set_option maxHeartbeats 2000000 in
set_option maxRecDepth 100000 in
theorem Split_says (n : Nat) (hn : Okn n) (t : Int) (lo hi : Nat) (nl : Bool) (hl : lo < 18446744073709551616) (hh : hi < 18446744073709551616) (w : World) :
    Calls Tryz.prog 28 #[.int .i64 n, vv t lo hi nl] w (LPost w (cnt n) (splitF n lo hi)) := by
  have HC := fun W => hid (lcount_any n hn W)
  have HXC := fun (a : Nat) (ha : a < 18446744073709551616) W => hid (lcut_any n hn a ha W)
  have hc0 : ((cnt n : Nat) : Int) ≠ 0 := by rcases hn.cases with ⟨_, _, h⟩ | ⟨_, _, h⟩ | ⟨_, _, h⟩ | ⟨_, _, h⟩ <;> rw [h] <;> decide
  have hc : (((cnt n : Nat) : Int) == 0) = false := by simpa using hc0
  obtain ⟨c, hce⟩ : ∃ c, c = cnt n := ⟨_, rfl⟩
  rw [← hce] at hc HC ⊢
  have hn8 := hn.le
  have hq : n * (64 / n) = 64 := hn.half
  have hq2 : c = 2 * (64 / n) := by rw [hce]; rcases hn.cases with ⟨_, h, h'⟩ | ⟨_, h, h'⟩ | ⟨_, h, h'⟩ | ⟨_, h, h'⟩ <;> omega
  have HS := fun h j hh hj => hid (split_step hn lo hi h j hh hj)
  obtain ⟨q, hqe⟩ : ∃ q, q = 64 / n := ⟨_, rfl⟩
  rw [← hqe] at hq hq2 HS
  have hq8 : q ≤ 8 := by rcases hn.cases with ⟨_, h, _⟩ | ⟨_, h, _⟩ | ⟨_, h, _⟩ | ⟨_, h, _⟩ <;> omega
  have HL := hid hl
  have HH := hid hh
  have HQ := hid hq
  have HQ2 := hid hq2
  obtain ⟨G, hG⟩ : ∃ G, G = splitF n lo hi := ⟨_, rfl⟩
  rw [← hG] at HS ⊢
  clear hc0 hce hn hqe hG hl hh hq hq2
  have hi0 := fun w => (run_idx2 (.int .u64 lo) (.int .u64 hi) w).1
  have hi1 := fun w => (run_idx2 (.int .u64 lo) (.int .u64 hi) w).2
  unfold vv
  go_enter Tryz.func28, Tryz.ntmps28
  go_wp2_with (first
    | (go_at_call 52; refine (HC _).out.mono ?_; rintro e w' ⟨rfl, rfl⟩))
  go_loopw [5, 17] (fun vo vi wr => ∃ h : Nat, h ≤ 2 ∧ vi = .int .i64 h ∧ wr.ownsRow w.heap.size 22 1 vo (h * q) (fc (h * q) G) ∧ Below w.heap.size w wr) (fun _ vi _ => 2 - (intOf vi).toNat)
  case atStart => exact ⟨0, Nat.zero_le _, rfl, by simpa [fc] using World.ownsRow_nil _ w.heap.size 22 1, (Below.refl _ _).alloc (Nat.le_refl _) _⟩
  case round =>
    obtain ⟨h, hh, rfl, hown, hB⟩ := hrel
    have hwr := hB.size
    rcases (show h = 0 ∨ h = 1 ∨ h = 2 by omega) with rfl | rfl | rfl
    · have HW := hid hown
      have HBB := hid hB
      clear hown hB
      rw [show ((0 : Nat) : Int) = 0 from rfl]
      go_wp2
      go_loopw [5, 8] (fun vo vi wr => ∃ j : Nat, j ≤ q ∧ vi = .int .i64 ((n * j : Nat) : Int) ∧ wr.ownsRow w.heap.size 22 1 vo (0 * q + j) (fc (0 * q + j) G) ∧ Below w.heap.size w wr) (fun _ vi _ => 64 - (intOf vi).toNat)
      case atStart => exact ⟨0, Nat.zero_le _, rfl, HW.out, HBB.out⟩
      case round =>
        obtain ⟨j, hj, rfl, hown, hB⟩ := hrel
        have hwr := hB.size
        by_cases hlt : j < q
        · have hjn : n * j < 64 := by
            have := Nat.mul_lt_mul_of_pos_left hlt (show 0 < n by omega)
            have := HQ.out; omega
          have hx : lo / 2 ^ (n * j) % 2 ^ n = G (0 * q + j) := (HS 0 j (by decide) hlt).out
          have hxl : lo / 2 ^ (n * j) < 18446744073709551616 := Nat.lt_of_le_of_lt (Nat.div_le_self _ _) HL.out
          have hnx : (n * j : Nat) + (n : Int) = ((n * (j + 1) : Nat) : Int) := by rw [Nat.mul_add, Nat.mul_one]; omega
          obtain ⟨at_, hat⟩ : ∃ at_ : Nat, at_ = n * j := ⟨_, rfl⟩
          obtain ⟨i, hie⟩ : ∃ i : Nat, i = 0 * q + j := ⟨_, rfl⟩
          rw [← hie] at hx hown
          rw [← hat] at hjn hx hxl hnx ⊢
          have HCU : Hid (∀ W, Calls Tryz.prog 35 #[.int .i64 n, .int .u64 ((lo : Int) / 2 ^ at_)] W fun e w' => e = .returned (.int .u64 (G i : Nat)) ∧ W = w') := fun W => by
            have := (HXC (lo / 2 ^ at_) hxl W).out
            rw [hx] at this
            simpa using this
          have hw := wrap64_nat' (show at_ + n ≤ 128 by omega)
          have HSN := hid (fc_snoc i G)
          have HI := hid hie
          have hi8 : i ≤ 64 := by omega
          have HW2 := hid hown
          have HB2 := hid hB
          have HAT := hid hat
          have HNX := hid hnx
          clear  hat hown hB hx hxl hnx hie
          go_wp2_with (first
            | (go_at_call 35; refine (HCU.out _).mono ?_; rintro e w' ⟨rfl, rfl⟩)
            | (at_builtin; refine append_u64 rfl _ _ rfl w.heap.size _ _ _ (G i : Int) HW2.out hwr (by omega) rfl rfl ?_; intro v' w3 hown' hnx3 hsz3))
          go_roundw
          case rel => exact ⟨j + 1, by omega, by rw [← HNX.out], by rw [← Nat.add_assoc,  ← HI.out, ← HSN.out]; exact hown', HB2.out.trans hnx3⟩
          case measure => simp [intOf]; omega
        · obtain rfl : j = q := by omega
          have hjn : n * j = 64 := HQ.out
          rw [hjn]
          have HW2 := hid hown
          have HB2 := hid hB
          clear hown hB hjn
          go_wp2
          go_roundw
          case rel => exact ⟨0 + 1, by omega, by go_num, by rw [Nat.add_mul, Nat.one_mul]; exact HW2.out, HB2.out⟩
          case measure => simp [intOf]
    · have HW := hid hown
      have HBB := hid hB
      clear hown hB
      rw [show ((1 : Nat) : Int) = 1 from rfl]
      go_wp2
      go_loopw [5, 8] (fun vo vi wr => ∃ j : Nat, j ≤ q ∧ vi = .int .i64 ((n * j : Nat) : Int) ∧ wr.ownsRow w.heap.size 22 1 vo (1 * q + j) (fc (1 * q + j) G) ∧ Below w.heap.size w wr) (fun _ vi _ => 64 - (intOf vi).toNat)
      case atStart => exact ⟨0, Nat.zero_le _, rfl, HW.out, HBB.out⟩
      case round =>
        obtain ⟨j, hj, rfl, hown, hB⟩ := hrel
        have hwr := hB.size
        by_cases hlt : j < q
        · have hjn : n * j < 64 := by
            have := Nat.mul_lt_mul_of_pos_left hlt (show 0 < n by omega)
            have := HQ.out; omega
          have hx : hi / 2 ^ (n * j) % 2 ^ n = G (1 * q + j) := (HS 1 j (by decide) hlt).out
          have hxl : hi / 2 ^ (n * j) < 18446744073709551616 := Nat.lt_of_le_of_lt (Nat.div_le_self _ _) HH.out
          have hnx : (n * j : Nat) + (n : Int) = ((n * (j + 1) : Nat) : Int) := by rw [Nat.mul_add, Nat.mul_one]; omega
          obtain ⟨at_, hat⟩ : ∃ at_ : Nat, at_ = n * j := ⟨_, rfl⟩
          obtain ⟨i, hie⟩ : ∃ i : Nat, i = 1 * q + j := ⟨_, rfl⟩
          rw [← hie] at hx hown
          rw [← hat] at hjn hx hxl hnx ⊢
          have HCU : Hid (∀ W, Calls Tryz.prog 35 #[.int .i64 n, .int .u64 ((hi : Int) / 2 ^ at_)] W fun e w' => e = .returned (.int .u64 (G i : Nat)) ∧ W = w') := fun W => by
            have := (HXC (hi / 2 ^ at_) hxl W).out
            rw [hx] at this
            simpa using this
          have hw := wrap64_nat' (show at_ + n ≤ 128 by omega)
          have HSN := hid (fc_snoc i G)
          have HI := hid hie
          have hi8 : i ≤ 64 := by omega
          have HW2 := hid hown
          have HB2 := hid hB
          have HAT := hid hat
          have HNX := hid hnx
          clear  hat hown hB hx hxl hnx hie
          go_wp2_with (first
            | (go_at_call 35; refine (HCU.out _).mono ?_; rintro e w' ⟨rfl, rfl⟩)
            | (at_builtin; refine append_u64 rfl _ _ rfl w.heap.size _ _ _ (G i : Int) HW2.out hwr (by omega) rfl rfl ?_; intro v' w3 hown' hnx3 hsz3))
          go_roundw
          case rel => exact ⟨j + 1, by omega, by rw [← HNX.out], by rw [← Nat.add_assoc,  ← HI.out, ← HSN.out]; exact hown', HB2.out.trans hnx3⟩
          case measure => simp [intOf]; omega
        · obtain rfl : j = q := by omega
          have hjn : n * j = 64 := HQ.out
          rw [hjn]
          have HW2 := hid hown
          have HB2 := hid hB
          clear hown hB hjn
          go_wp2
          go_roundw
          case rel => exact ⟨1 + 1, by omega, by go_num, by rw [show (1 + 1) * j = 1 * j + j by omega]; exact HW2.out, HB2.out⟩
          case measure => simp [intOf]
    · have HW := hid hown
      have HBB := hid hB
      clear hown hB
      go_wp2
      go_ret
      exact ⟨_, rfl, by rw [HQ2.out]; exact HW.out, HBB.out⟩
end Go.Proofs.YtlhakbkdlgejpaaGreatDoor
