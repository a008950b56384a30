/-
  The program's calls with their answers given; counters of the laws' loops. Condition: the bits are 8, 16, 32 or 64.
-/
import Derived.Test.YticcmbeikdemmaaAwake
import Derived.Test.YticcmbeikdemmaaRefSmall
import Derived.Test.YticcmbeikdemmaaLawMath
namespace Go.Proofs.Yticcmbeikdemmaa
open Go.RowKit

theorem binA_ok {n k a b : Nat} (h : Okn n) (h1 : 1 ≤ k) (h2 : k ≤ 24) : binA (n : Int) (k : Int) a b = binR n k (a % 2 ^ n) (b % 2 ^ n) := by
  rw [binA, if_pos ⟨by simpa using h, by omega, by omega, fun h => absurd h (by omega)⟩, Int.toNat_natCast, Int.toNat_natCast]

theorem bin_c {n : Nat} (hn : Okn n) (k : Nat) (K : Int) (hK : (k : Int) = K) (h1 : 1 ≤ k) (h2 : k ≤ 24) (a b : Nat) (ha : a < 18446744073709551616) (hb : b < 18446744073709551616) (v e : Nat) (V E : Int) (hV : (v : Int) = V) (hE : (e : Int) = E) (hr : binR n k (a % 2 ^ n) (b % 2 ^ n) = (v, e)) (w : World) :
    Calls Try.prog 16 #[.int .i64 n, .int .i64 K, .int .u64 a, .int .u64 b] w fun en w' => en = .returned (.tuple #[.int .u64 V, .int .i64 E]) ∧ w = w' := by
  have := Bin_any n k a b ha hb w
  rw [binA_ok hn h1 h2, hr] at this
  rw [← hK, ← hV, ← hE]
  exact this

theorem unA_ok {n k a : Nat} (h : Okn n) (h1 : k = 1 ∨ k = 2 ∨ k = 3 ∨ k = 7 ∨ k = 8) : unA (n : Int) (k : Int) a = (unR n k (a % 2 ^ n), 0) := by
  rw [unA, if_pos ⟨by simpa using h, by omega, by omega, by omega, by omega, by omega⟩, Int.toNat_natCast, Int.toNat_natCast]

theorem un_c {n : Nat} (hn : Okn n) (k : Nat) (K : Int) (hK : (k : Int) = K) (h1 : k = 1 ∨ k = 2 ∨ k = 3 ∨ k = 7 ∨ k = 8) (a : Nat) (ha : a < 18446744073709551616) (v : Nat) (hr : unR n k (a % 2 ^ n) = v) (w : World) :
    Calls Try.prog 20 #[.int .i64 n, .int .i64 K, .int .u64 a] w fun en w' => en = .returned (.tuple #[.int .u64 (v : Int), .int .i64 0]) ∧ w = w' := by
  have := Un_any n k a ha w
  rw [unA_ok hn h1, hr] at this
  rw [← hK]
  exact this

/-- A counter between two numbers. -/
def Cnt (lo hi : Nat) (v : Value) : Prop := ∃ k : Nat, lo ≤ k ∧ k ≤ hi ∧ v = .int .i64 k
theorem cnt_mk {lo hi k : Nat} {v : Value} (h1 : lo ≤ k) (h2 : k ≤ hi) (h : v = .int .i64 k) : Cnt lo hi v := ⟨k, h1, h2, h⟩

/-- The laws' loop over the bits: 8, 16, 32, 64, and 128 at its end. -/
def Bts (v : Value) : Prop := ∃ n : Nat, (Okn n ∨ n = 128) ∧ v = .int .i64 n
theorem bts_first {v : Value} (h : v = .int .i64 8) : Bts v := ⟨8, .inl (.inl rfl), h⟩
theorem bts_next {n : Nat} (hn : Okn n) {v : Value} (h : v = .int .i64 ((n : Int) * 2)) : Bts v := by
  refine ⟨n * 2, ?_, by rw [h]; simp⟩
  unfold Okn at hn ⊢
  omega

end Go.Proofs.Yticcmbeikdemmaa
