/-
  The contract of the document's own of: the number of bits in memory. Condition: at most 64 bits, each 0 or 1.
-/
import Derived.Test.YticcmbeikdemmaaRefList
namespace Go.Proofs.Yticcmbeikdemmaa
open Go.RowKit

/-- The number of the bits f 0, .., f (n - 1). -/
def ofF : Nat → (Nat → Nat) → Nat
  | 0, _ => 0
  | n + 1, f => f 0 + 2 * ofF n (fun j => f (j + 1))

theorem ofF_lt : ∀ (n : Nat) (f : Nat → Nat), (∀ j, f j ≤ 1) → ofF n f < 2 ^ n
  | 0, f, _ => by simp [ofF]
  | n + 1, f, h => by
    have ih := ofF_lt n (fun j => f (j + 1)) (fun j => h (j + 1))
    have := h 0
    rw [ofF, Nat.pow_succ]
    omega

theorem ofF_congr : ∀ (n : Nat) (f g : Nat → Nat), (∀ j, j < n → f j = g j) → ofF n f = ofF n g
  | 0, _, _, _ => rfl
  | n + 1, f, g, h => by
    rw [ofF, ofF, h 0 (by omega), ofF_congr n _ _ (fun j hj => h (j + 1) (by omega))]

theorem ofF_bit : ∀ (n : Nat) (f : Nat → Nat), (∀ j, f j ≤ 1) → ∀ i, (ofF n f).testBit i = (decide (i < n) && decide (f i = 1))
  | 0, f, _, i => by simp [ofF]
  | n + 1, f, h, i => by
    have ih := ofF_bit n (fun j => f (j + 1)) (fun j => h (j + 1))
    have h0 := h 0
    cases i with
    | zero =>
      rw [ofF, Nat.testBit_zero]
      have : (f 0 + 2 * ofF n (fun j => f (j + 1))) % 2 = f 0 := by omega
      rw [this]
      simp
    | succ i =>
      rw [ofF, Nat.testBit_succ]
      have : (f 0 + 2 * ofF n (fun j => f (j + 1))) / 2 = ofF n (fun j => f (j + 1)) := by omega
      rw [this, ih i]
      simp

/-- A number is that of its bits. -/
theorem ofF_eq {n x : Nat} {f : Nat → Nat} (hf : ∀ j, f j ≤ 1) (hx : x < 2 ^ n) (h : ∀ i, i < n → x.testBit i = decide (f i = 1)) : ofF n f = x := by
  apply Nat.eq_of_testBit_eq
  intro i
  rw [ofF_bit n f hf]
  by_cases hi : i < n
  · simp [hi, h i hi]
  · have : x.testBit i = false := Nat.testBit_lt_two_pow (Nat.lt_of_lt_of_le hx (Nat.pow_le_pow_right (by decide) (by omega)))
    simp [hi, this]

theorem btN_bit (a j : Nat) : decide (btN a j = 1) = a.testBit j := by
  rw [Nat.testBit_eq_decide_div_mod_eq]; rfl
theorem btN_le (a j : Nat) : btN a j ≤ 1 := by unfold btN; omega

set_option maxHeartbeats 800000 in
theorem of_any (n : Nat) (hn1 : 1 ≤ n) (hn : n ≤ 64) (f : Nat → Nat) (hf : ∀ j, f j ≤ 1) (w : World) (base : Nat) (v : Value) (hown : w.ownsRow base 22 1 v n (fc n f)) :
    Calls Try.prog 36 #[v] w fun e w' => e = .returned (.int .u64 (ofF n f : Nat)) ∧ w = w' := by
  obtain ⟨g, cap, rfl⟩ := owned_at hown hn1
  obtain ⟨R, hR⟩ : ∃ R : Nat, R = ofF n f := ⟨_, rfl⟩
  rw [← hR]
  have HW := hid hown
  have HF := hid hf
  have HR := hid hR
  clear hown hf hR
  go_enter Try.func36, Try.ntmps36
  go_wp2
  go_loop [3, 4] (fun vn vi => ∃ m : Nat, m ≤ n ∧ vi = .int .i64 ((m : Int) - 1) ∧ vn = .int .u64 ((ofF (n - m) (fun j => f (m + j)) : Nat) : Int)) (fun _ vi => (intOf vi + 1).toNat)
  case atStart => exact ⟨n, Nat.le_refl _, rfl, by rw [Nat.sub_self]; rfl⟩
  case round =>
    obtain ⟨m, hm, rfl, rfl⟩ := hrel
    by_cases h0 : m = 0
    · subst h0
      have e : ofF (n - 0) (fun j => f (0 + j)) = R := by
        rw [HR.out, Nat.sub_zero]
        exact ofF_congr n _ _ (fun j _ => by rw [Nat.zero_add])
      rw [e]
      go_wp2
      go_ret
      exact ⟨rfl, rfl⟩
    · obtain ⟨k, rfl⟩ : ∃ k, m = k + 1 := ⟨m - 1, by omega⟩
      have ek : ((k + 1 : Nat) : Int) - 1 = (k : Int) := by omega
      have hc : w.cell? ⟨g, k, none⟩ = some (.int .u64 (f k : Nat)) := by
        rw [HW.out.cellAt k (by omega), fc_get (by omega)]
      have hl := ofF_lt (n - (k + 1)) (fun j => f (k + 1 + j)) (fun j => HF.out _)
      have hp : 2 ^ (n - (k + 1)) ≤ 2 ^ 63 := Nat.pow_le_pow_right (by decide) (by omega)
      have hfk := HF.out k
      have hs : ofF (n - k) (fun j => f (k + j)) = f k + 2 * ofF (n - (k + 1)) (fun j => f (k + 1 + j)) := by
        rw [show n - k = n - (k + 1) + 1 by omega, ofF, Nat.add_zero]
        congr 2
        apply ofF_congr
        intro j _
        show f (k + (j + 1)) = f (k + 1 + j)
        congr 1
        omega
      rw [ek]
      obtain ⟨A, hA⟩ : ∃ A : Nat, A = ofF (n - (k + 1)) (fun j => f (k + 1 + j)) := ⟨_, rfl⟩
      obtain ⟨c, hce⟩ : ∃ c : Nat, c = f k := ⟨_, rfl⟩
      rw [← hA] at hl hs ⊢
      rw [← hce] at hc hfk hs
      have hw1 : IntKind.u64.wrap ((A : Int) * 2) = ((2 * A : Nat) : Int) := by rw [IntKind.wrap_u64]; omega
      obtain ⟨B, hB⟩ : ∃ B : Nat, B = 2 * A := ⟨_, rfl⟩
      have hw2 : IntKind.u64.wrap ((B : Int) + (c : Int)) = ((c + 2 * A : Nat) : Int) := by rw [IntKind.wrap_u64]; omega
      rw [← hB] at hw1
      rw [← hs] at hw2
      obtain ⟨D, hD⟩ : ∃ D : Nat, D = ofF (n - k) (fun j => f (k + j)) := ⟨_, rfl⟩
      rw [← hD] at hw2
      have HD := hid hD
      clear hl hp hfk hs hA hce hB hD h0 ek
      go_wp2
      go_round
      case rel => exact ⟨k, by omega, rfl, by rw [← HD.out]⟩
      case measure => simp [intOf]
    
end Go.Proofs.Yticcmbeikdemmaa
