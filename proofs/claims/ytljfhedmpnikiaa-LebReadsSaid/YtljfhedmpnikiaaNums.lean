/-
  Plain facts on numbers in groups of seven bits: their bytes, no program in this text. No condition.
-/
import Derived.Laws.BitsLemmas
import Derived.Laws.Bits64
import Derived.Laws.Bits64b
import Derived.Lib.UnsafeStr
namespace Go.Proofs.Ytljfhedmpnikiaa
open Go

/-- The bytes of an unsigned number. -/
def ulist (x : Nat) : List UInt8 :=
  if h : x < 128 then [x.toUInt8] else (x % 128 + 128).toUInt8 :: ulist (x / 128)
termination_by x
decreasing_by omega

theorem ulist_small {x : Nat} (h : x < 128) : ulist x = [x.toUInt8] := by rw [ulist, dif_pos h]
theorem ulist_big {x : Nat} (h : 128 ≤ x) : ulist x = (x % 128 + 128).toUInt8 :: ulist (x / 128) := by rw [ulist, dif_neg (by omega)]

theorem ulist_length : ∀ (k x : Nat), x < 128 ^ (k + 1) → (ulist x).length ≤ k + 1
  | 0, x, h => by rw [ulist_small (by simpa using h)]; simp
  | k + 1, x, h => by
    by_cases hx : x < 128
    · rw [ulist_small hx]; simp
    · rw [ulist_big (by omega), List.length_cons]
      have := ulist_length k (x / 128) (by rw [Nat.pow_succ] at h; exact Nat.div_lt_of_lt_mul (by rw [Nat.mul_comm]; exact h))
      omega

theorem ulist_length64 {x : Nat} (h : x < 18446744073709551616) : (ulist x).length ≤ 10 :=
  ulist_length 9 x (Nat.lt_of_lt_of_le h (by decide))

theorem ulist_pos (x : Nat) : 1 ≤ (ulist x).length := by
  by_cases hx : x < 128
  · rw [ulist_small hx]; simp
  · rw [ulist_big (by omega)]; simp

/-- The bytes of a number of either sign. -/
def slist (m : Int) : List UInt8 :=
  if h : -64 ≤ m ∧ m < 64 then [(m % 128).toNat.toUInt8] else ((m % 128).toNat + 128).toUInt8 :: slist (m / 128)
termination_by m.natAbs
decreasing_by omega

theorem slist_small {m : Int} (h : -64 ≤ m ∧ m < 64) : slist m = [(m % 128).toNat.toUInt8] := by rw [slist, dif_pos h]
theorem slist_big {m : Int} (h : ¬ (-64 ≤ m ∧ m < 64)) : slist m = ((m % 128).toNat + 128).toUInt8 :: slist (m / 128) := by rw [slist, dif_neg h]

theorem slist_length : ∀ (k : Nat) (m : Int), -(64 * 128 ^ k : Nat) ≤ m → m < (64 * 128 ^ k : Nat) → (slist m).length ≤ k + 1
  | 0, m, h, h' => by rw [slist_small (by constructor <;> simpa using by assumption)]; simp
  | k + 1, m, h, h' => by
    by_cases hx : -64 ≤ m ∧ m < 64
    · rw [slist_small hx]; simp
    · rw [slist_big hx, List.length_cons]
      have e : (64 * 128 ^ (k + 1) : Nat) = 128 * (64 * 128 ^ k) := by rw [Nat.pow_succ]; omega
      rw [e] at h h'
      have := slist_length k (m / 128) (by omega) (by omega)
      omega

theorem slist_length64 {m : Int} (h0 : -9223372036854775808 ≤ m) (h1 : m ≤ 9223372036854775807) : (slist m).length ≤ 10 :=
  slist_length 9 m (Int.le_trans (by decide) h0) (Int.lt_of_le_of_lt h1 (by decide))

theorem slist_pos (m : Int) : 1 ≤ (slist m).length := by
  by_cases hx : -64 ≤ m ∧ m < 64
  · rw [slist_small hx]; simp
  · rw [slist_big hx]; simp

theorem toUInt8_toNat {a : Nat} (h : a < 256) : (a.toUInt8).toNat = a := by
  simp [Nat.toUInt8, UInt8.toNat_ofNat']
  omega

theorem byteCells_snoc (pre : List UInt8) {a : Nat} (h : a < 256) : Lib.byteCells (pre ++ [a.toUInt8]) = Lib.byteCells pre ++ [Value.int .u8 (a : Int)] := by
  rw [Lib.byteCells_append]
  simp [Lib.byteCells, toUInt8_toNat h]

set_option maxRecDepth 100000 in
theorem or128_nat : ∀ a : Fin 256, (a.val ||| 128) = a.val % 128 + 128 := by decide

theorem u8_or128 (a : Int) (h₀ : 0 ≤ a) (h₁ : a < 256) : bits .or .u8 a 128 = a % 128 + 128 := by
  obtain ⟨n, rfl⟩ := Int.eq_ofNat_of_zero_le h₀
  have hn : n < 256 := by omega
  have h := (bits_nat .u8 8 (by decide) wraps_u8 n 128 (by simpa using hn) (by decide)).2
  have e : ((128 : Nat) : Int) = 128 := rfl
  rw [e] at h
  have h2 : (n ||| 128) = n % 128 + 128 := or128_nat ⟨n, hn⟩
  rw [h, h2]
  omega

theorem u8_and127 (x : Int) (h₀ : 0 ≤ x) (h₁ : x < 256) : bits .and .u8 x 127 = x % 128 := bits_mask .u8 8 (by decide) wraps_u8 7 (by decide) x h₀ h₁

theorem tmod128_neg {y : Int} (h : y < 0) : y.tmod 128 = -((-y) % 128) := by
  have := Int.neg_tmod (-y) 128
  rw [Int.neg_neg] at this
  rw [this, Int.tmod_eq_emod_of_nonneg (by omega)]

theorem tmod128_pos {y : Int} (h : 0 ≤ y) : y.tmod 128 = y % 128 := Int.tmod_eq_emod_of_nonneg h

theorem tdiv128_exact {y d : Int} (h : y % 128 = d) : (y - d).tdiv 128 = y / 128 := by
  have e : y - d = 128 * (y / 128) := by omega
  rw [e, Int.mul_tdiv_cancel_left _ (by decide)]

theorem or_low (low d sh : Nat) (h : low < 2 ^ sh) (hs : sh ≤ 63) (hx : d * 2 ^ sh < 18446744073709551616) : bits .or .u64 (low : Int) ((d * 2 ^ sh : Nat) : Int) = ((low + d * 2 ^ sh : Nat) : Int) := by
  have hp : 2 ^ sh ≤ 2 ^ 63 := Nat.pow_le_pow_right (by decide) hs
  rw [bits_or_u64_nat _ _ (by omega) hx]
  congr 1
  rw [Nat.or_comm, Nat.mul_comm d, ← Nat.two_pow_add_eq_or_of_lt h, Nat.add_comm]

theorem two_pow_cast (sh : Nat) : (2 : Int) ^ sh = ((2 ^ sh : Nat) : Int) := by simp

theorem mul_pow_lt {d k sh j : Nat} (hd : d < 2 ^ k) (hj : sh + k ≤ j) : d * 2 ^ sh < 2 ^ j := by
  have h1 : d * 2 ^ sh < 2 ^ k * 2 ^ sh := Nat.mul_lt_mul_of_pos_right hd (Nat.two_pow_pos _)
  rw [← Nat.pow_add] at h1
  exact Nat.lt_of_lt_of_le h1 (Nat.pow_le_pow_right (by decide) (by omega))

theorem wrap_u64_shl (d sh : Nat) (h : d * 2 ^ sh < 18446744073709551616) : IntKind.u64.wrap ((d : Int) * 2 ^ sh) = ((d * 2 ^ sh : Nat) : Int) := by
  rw [IntKind.wrap_u64, two_pow_cast, ← Int.natCast_mul]
  omega

theorem low_next {low d sh : Nat} (h : low < 2 ^ sh) (hd : d < 128) : low + d * 2 ^ sh < 2 ^ (sh + 7) := by
  have h1 : d * 2 ^ sh ≤ 127 * 2 ^ sh := Nat.mul_le_mul_right _ (by omega)
  rw [Nat.pow_add]
  omega

theorem shr_min {last c : Nat} (h : last < 256) : (last : Int) / 2 ^ min c 8 = ((last / 2 ^ c : Nat) : Int) := by
  rw [two_pow_cast, ← Int.natCast_ediv]
  congr 1
  by_cases hc : c ≤ 8
  · rw [Nat.min_eq_left hc]
  · have : 2 ^ 8 ≤ 2 ^ c := Nat.pow_le_pow_right (by decide) (by omega)
    rw [Nat.min_eq_right (by omega), Nat.div_eq_of_lt (by omega), Nat.div_eq_of_lt (by omega)]

theorem or_i64 (low : Nat) (T : Int) (sh : Nat) (hs : sh ≤ 63) (h : low < 2 ^ sh) (h0 : -9223372036854775808 ≤ T * 2 ^ sh) (h1 : T * 2 ^ sh + low < 9223372036854775808) :
    bits .or .i64 (low : Int) (T * 2 ^ sh) = low + T * 2 ^ sh := by
  have hp : 2 ^ sh ≤ 2 ^ 63 := Nat.pow_le_pow_right (by decide) hs
  have hlow : low < 9223372036854775808 := Nat.lt_of_lt_of_le h hp
  obtain ⟨X, hX⟩ : ∃ X : Nat, (T * 2 ^ sh) % 18446744073709551616 = ((2 ^ sh * X : Nat) : Int) := by
    refine ⟨(T % 2 ^ (64 - sh)).toNat, ?_⟩
    have e : (18446744073709551616 : Int) = 2 ^ sh * 2 ^ (64 - sh) := by
      rw [← Int.pow_add, show sh + (64 - sh) = 64 by omega]; rfl
    rw [e, Int.mul_comm T, Int.mul_emod_mul_of_pos _ _ (Int.pow_pos (by decide)), Int.natCast_mul, Int.toNat_of_nonneg (Int.emod_nonneg _ (Int.ne_of_gt (Int.pow_pos (by decide))))]
    simp
  have e1 : BitVec.toNat (BitVec.ofInt 64 (low : Int)) = low := by
    rw [BitVec.toNat_ofInt]; omega
  have e2 : BitVec.toNat (BitVec.ofInt 64 (T * 2 ^ sh)) = 2 ^ sh * X := by
    rw [BitVec.toNat_ofInt]
    have : (T * 2 ^ sh) % ((2 ^ 64 : Nat) : Int) = ((2 ^ sh * X : Nat) : Int) := hX
    rw [this, Int.toNat_natCast]
  have e3 : (low ||| 2 ^ sh * X) = 2 ^ sh * X + low := by
    rw [Nat.or_comm, ← Nat.two_pow_add_eq_or_of_lt h]
  have e4 : bits .or .i64 (low : Int) (T * 2 ^ sh) = IntKind.i64.wrap ((2 ^ sh * X + low : Nat) : Int) := by
    rw [← e3]
    show IntKind.i64.wrap ((BitVec.ofInt 64 (low : Int) ||| BitVec.ofInt 64 (T * 2 ^ sh)).toNat : Int) = _
    rw [BitVec.toNat_or, e1, e2]
  rw [e4, IntKind.wrap_i64, Int.natCast_add]
  generalize hq : ((2 ^ sh * X : Nat) : Int) = q at hX ⊢
  generalize T * 2 ^ sh = Y at *
  omega

theorem IntKind_wrap_i8 (n : Int) : IntKind.i8.wrap n = (n + 128) % 256 - 128 := by
  simp [IntKind.wrap, IntKind.bits, IntKind.signed]
  split <;> omega

theorem top_range {T : Int} {c : Nat} (hz : T / 2 ^ c = 0 ∨ T / 2 ^ c = -1) : -((2 ^ c : Nat) : Int) ≤ T ∧ T < ((2 ^ c : Nat) : Int) := by
  rw [two_pow_cast] at hz
  have hp : (0 : Int) < ((2 ^ c : Nat) : Int) := by exact_mod_cast Nat.two_pow_pos c
  generalize ((2 ^ c : Nat) : Int) = p at *
  have h1 := Int.emod_nonneg T (Int.ne_of_gt hp)
  have h2 := Int.emod_lt_of_pos T hp
  have h3 := Int.mul_ediv_add_emod T p
  rcases hz with hz | hz <;> rw [hz] at h3 <;> constructor <;> omega

/-- What is read of a number of either sign is in its range. -/
theorem s_range {low : Nat} {T : Int} {sh c : Nat} (h : low < 2 ^ sh) (hc : sh + c ≤ 63) (hz : T / 2 ^ c = 0 ∨ T / 2 ^ c = -1) :
    -9223372036854775808 ≤ T * 2 ^ sh ∧ T * 2 ^ sh + low < 9223372036854775808 ∧ -((2 ^ (sh + c) : Nat) : Int) ≤ T * 2 ^ sh + low ∧ T * 2 ^ sh + low < ((2 ^ (sh + c) : Nat) : Int) := by
  obtain ⟨h1, h2⟩ := top_range hz
  have hp : 2 ^ (sh + c) ≤ 2 ^ 63 := Nat.pow_le_pow_right (by decide) hc
  have e : 2 ^ (sh + c) = 2 ^ c * 2 ^ sh := by rw [Nat.pow_add, Nat.mul_comm]
  rw [two_pow_cast]
  have h3 : -(((2 ^ c * 2 ^ sh : Nat)) : Int) ≤ T * ((2 ^ sh : Nat) : Int) := by
    rw [Int.natCast_mul, ← Int.neg_mul]
    exact Int.mul_le_mul_of_nonneg_right h1 (by omega)
  have h4 : T * ((2 ^ sh : Nat) : Int) ≤ (((2 ^ c - 1) * 2 ^ sh : Nat) : Int) := by
    rw [Int.natCast_mul]
    exact Int.mul_le_mul_of_nonneg_right (by have := Nat.two_pow_pos c; omega) (by omega)
  rw [Nat.sub_mul, Nat.one_mul] at h4
  have h5 : 2 ^ sh ≤ 2 ^ c * 2 ^ sh := Nat.le_mul_of_pos_left _ (Nat.two_pow_pos c)
  rw [e] at hp ⊢
  generalize 2 ^ c * 2 ^ sh = A at *
  generalize T * ((2 ^ sh : Nat) : Int) = Y at *
  omega

theorem top_min {T : Int} (h0 : -128 ≤ T) (h1 : T < 128) (c : Nat) : T / 2 ^ min c 8 = T / 2 ^ c := by
  by_cases hc : c ≤ 8
  · rw [Nat.min_eq_left hc]
  · have hp : 2 ^ 8 ≤ 2 ^ c := Nat.pow_le_pow_right (by decide) (by omega)
    rw [Nat.min_eq_right (by omega), two_pow_cast c]
    have hp2 : (256 : Int) ≤ ((2 ^ c : Nat) : Int) := Int.ofNat_le.2 hp
    generalize ((2 ^ c : Nat) : Int) = p at *
    by_cases hT : 0 ≤ T
    · have e1 : T / p = 0 := Int.ediv_eq_zero_of_lt hT (by omega)
      rw [e1]
      show T / 256 = 0
      omega
    · have e2 : T / p = -1 := by
        have h3 := Int.mul_ediv_add_emod T p
        have h4 := Int.emod_nonneg T (by omega : p ≠ 0)
        have h5 := Int.emod_lt_of_pos T (by omega : 0 < p)
        have h6 : -1 ≤ T / p := by
          rw [Int.le_ediv_iff_mul_le (by omega)]; omega
        have h7 : T / p < 0 := Int.ediv_neg_of_neg_of_pos (by omega) (by omega)
        omega
      rw [e2]
      show T / 256 = -1
      omega

theorem and_i64_le (a : Int) (m : Nat) (hm : m < 1000) : ∃ K : Nat, K ≤ m ∧ bits .and .i64 a (m : Int) = (K : Int) := by
  refine ⟨(BitVec.ofInt 64 a).toNat &&& m, Nat.and_le_right, ?_⟩
  have e2 : BitVec.toNat (BitVec.ofInt 64 (m : Int)) = m := by
    rw [BitVec.toNat_ofInt]; omega
  have hle : (BitVec.ofInt 64 a).toNat &&& m ≤ m := Nat.and_le_right
  show IntKind.i64.wrap ((BitVec.ofInt 64 a &&& BitVec.ofInt 64 (m : Int)).toNat : Int) = _
  rw [BitVec.toNat_and, e2, IntKind.wrap_i64]
  generalize (BitVec.ofInt 64 a).toNat &&& m = q at *
  omega

end Go.Proofs.Ytljfhedmpnikiaa
