/-
  The contracts of the program's small functions: known, ones, sign, cut, negative, size, Signed. Condition: the bits are 8, 16, 32 or 64, but for known and Signed.
-/
import Derived.Test.YticcmbeikdemmaaMath
import Derived.Test.YticcmbeikdemmaaProg
import Derived.WalkKit
import Derived.WalkSpells
import Derived.WalkLawsBesides
namespace Go.Proofs.Yticcmbeikdemmaa
open Go.RowKit

theorem known_yes (n : Nat) (hn : Okn n) (w : World) : Calls Try.prog 25 #[.int .i64 n] w fun e w' => e = .returned (.bool true) ∧ w = w' := by
  rcases hn with rfl | rfl | rfl | rfl
  · show Calls Try.prog 25 #[.int .i64 8] w _
    go_enter Try.func25, Try.ntmps25
    go_wp2
    go_ret
    exact ⟨rfl, rfl⟩
  · show Calls Try.prog 25 #[.int .i64 16] w _
    go_enter Try.func25, Try.ntmps25
    go_wp2
    go_ret
    exact ⟨rfl, rfl⟩
  · show Calls Try.prog 25 #[.int .i64 32] w _
    go_enter Try.func25, Try.ntmps25
    go_wp2
    go_ret
    exact ⟨rfl, rfl⟩
  · show Calls Try.prog 25 #[.int .i64 64] w _
    go_enter Try.func25, Try.ntmps25
    go_wp2
    go_ret
    exact ⟨rfl, rfl⟩

theorem hid {p : Prop} (h : p) : Hid p := h

/-- The bits are of no kind. -/
def Bad (b : Int) : Prop := b ≠ 8 ∧ b ≠ 16 ∧ b ≠ 32 ∧ b ≠ 64

theorem known_no (b : Int) (hb : Bad b) (w : World) : Calls Try.prog 25 #[.int .i64 b] w fun e w' => e = .returned (.bool false) ∧ w = w' := by
  obtain ⟨h1, h2, h3, h4⟩ := hb
  have e1 : (b == 8) = false := by simpa using h1
  have e2 : (b == 16) = false := by simpa using h2
  have e3 : (b == 32) = false := by simpa using h3
  have e4 : (b == 64) = false := by simpa using h4
  clear h1 h2 h3 h4
  go_enter Try.func25, Try.ntmps25
  go_wp2
  go_ret
  exact ⟨rfl, rfl⟩

theorem ones_any (n : Nat) (hn : Okn n) (w : World) : Calls Try.prog 43 #[.int .i64 n] w fun e w' => e = .returned (.int .u64 ((2 ^ n - 1 : Nat) : Int)) ∧ w = w' := by
  rcases hn with rfl | rfl | rfl | rfl
  · show Calls Try.prog 43 #[.int .i64 8] w fun e w' => e = .returned (.int .u64 255) ∧ w = w'
    go_enter Try.func43, Try.ntmps43
    go_wp2
    go_ret
    exact ⟨rfl, rfl⟩
  · show Calls Try.prog 43 #[.int .i64 16] w fun e w' => e = .returned (.int .u64 65535) ∧ w = w'
    go_enter Try.func43, Try.ntmps43
    go_wp2
    go_ret
    exact ⟨rfl, rfl⟩
  · show Calls Try.prog 43 #[.int .i64 32] w fun e w' => e = .returned (.int .u64 4294967295) ∧ w = w'
    go_enter Try.func43, Try.ntmps43
    go_wp2
    go_ret
    exact ⟨rfl, rfl⟩
  · show Calls Try.prog 43 #[.int .i64 64] w fun e w' => e = .returned (.int .u64 18446744073709551615) ∧ w = w'
    go_enter Try.func43, Try.ntmps43
    go_wp2
    go_ret
    exact ⟨rfl, rfl⟩

theorem sign_any (n : Nat) (hn : Okn n) (w : World) : Calls Try.prog 39 #[.int .i64 n] w fun e w' => e = .returned (.int .u64 ((2 ^ (n - 1) : Nat) : Int)) ∧ w = w' := by
  rcases hn with rfl | rfl | rfl | rfl
  · show Calls Try.prog 39 #[.int .i64 8] w fun e w' => e = .returned (.int .u64 128) ∧ w = w'
    go_enter Try.func39, Try.ntmps39
    go_wp2
    go_ret
    exact ⟨rfl, rfl⟩
  · show Calls Try.prog 39 #[.int .i64 16] w fun e w' => e = .returned (.int .u64 32768) ∧ w = w'
    go_enter Try.func39, Try.ntmps39
    go_wp2
    go_ret
    exact ⟨rfl, rfl⟩
  · show Calls Try.prog 39 #[.int .i64 32] w fun e w' => e = .returned (.int .u64 2147483648) ∧ w = w'
    go_enter Try.func39, Try.ntmps39
    go_wp2
    go_ret
    exact ⟨rfl, rfl⟩
  · show Calls Try.prog 39 #[.int .i64 64] w fun e w' => e = .returned (.int .u64 9223372036854775808) ∧ w = w'
    go_enter Try.func39, Try.ntmps39
    go_wp2
    go_ret
    exact ⟨rfl, rfl⟩

theorem cut_any (n : Nat) (hn : Okn n) (a : Nat) (ha : a < 18446744073709551616) (w : World) : Calls Try.prog 26 #[.int .i64 n, .int .u64 a] w fun e w' => e = .returned (.int .u64 ((a % 2 ^ n : Nat) : Int)) ∧ w = w' := by
  have hb : 2 ^ n - 1 < 18446744073709551616 := by rcases hn with rfl | rfl | rfl | rfl <;> decide
  have hand : bits .and .u64 (a : Int) ((2 ^ n - 1 : Nat) : Int) = ((a % 2 ^ n : Nat) : Int) := by
    rw [bits_and_u64_nat _ _ ha hb, Nat.and_two_pow_sub_one_eq_mod]
  have HO := hid (ones_any n hn w)
  clear hb hn
  obtain ⟨m, hm⟩ : ∃ m : Nat, m = 2 ^ n - 1 := ⟨_, rfl⟩
  obtain ⟨y, hy⟩ : ∃ y : Nat, y = a % 2 ^ n := ⟨_, rfl⟩
  rw [← hm] at HO hand
  rw [← hy] at hand ⊢
  clear hm hy
  go_enter Try.func26, Try.ntmps26
  go_wp2_with (go_at_call 43; refine HO.out.mono ?_; rintro e w' ⟨rfl, rfl⟩)
  go_ret
  exact ⟨rfl, rfl⟩

theorem negative_any (n : Nat) (hn : Okn n) (x : Nat) (hx : x < 18446744073709551616) (b : Bool) (hb : x.testBit (n - 1) = b) (w : World) :
    Calls Try.prog 44 #[.int .i64 n, .int .u64 x] w fun e w' => e = .returned (.bool b) ∧ w = w' := by
  obtain ⟨h1, h2, _⟩ := pow_lt64 hn
  have hand : bits .and .u64 (x : Int) ((2 ^ (n - 1) : Nat) : Int) = ((b.toNat * 2 ^ (n - 1) : Nat) : Int) := by
    rw [bits_and_u64_nat _ _ hx h1, and_pow, hb]
  have HS := hid (sign_any n hn w)
  clear hn hb
  obtain ⟨S, hS⟩ : ∃ S : Nat, S = 2 ^ (n - 1) := ⟨_, rfl⟩
  rw [← hS] at HS hand h1 h2
  clear hS
  cases b with
  | true =>
    have hand2 : bits .and .u64 (x : Int) (S : Int) = (S : Int) := by rw [hand]; simp
    have hne : ((S : Int) != 0) = true := by simp; omega
    clear hand
    go_enter Try.func44, Try.ntmps44
    go_wp2_with (go_at_call 39; refine HS.out.mono ?_; rintro e w' ⟨rfl, rfl⟩)
    go_ret
    exact ⟨rfl, rfl⟩
  | false =>
    have hand2 : bits .and .u64 (x : Int) (S : Int) = 0 := by rw [hand]; simp
    clear hand
    go_enter Try.func44, Try.ntmps44
    go_wp2_with (go_at_call 39; refine HS.out.mono ?_; rintro e w' ⟨rfl, rfl⟩)
    go_ret
    exact ⟨rfl, rfl⟩

set_option maxHeartbeats 400000 in
theorem size_any (n : Nat) (hn : Okn n) (x : Nat) (hx : x < 2 ^ n) (w : World) :
    Calls Try.prog 42 #[.int .i64 n, .int .u64 x] w fun e w' => e = .returned (.int .u64 ((sg n x).natAbs : Nat)) ∧ w = w' := by
  obtain ⟨h1, h2, h3, h4⟩ := pow_lt64 hn
  have hx64 : x < 18446744073709551616 := by omega
  rw [sg_abs hx]
  have htop := testBit_top hn hx
  have hneg : IntKind.u64.wrap (-(x : Int)) = (((18446744073709551616 - x) % 18446744073709551616 : Nat) : Int) := by
    rw [IntKind.wrap_u64]; omega
  by_cases hc : 2 ^ (n - 1) ≤ x
  · rw [if_pos hc]
    have HN := hid (negative_any n hn x hx64 true (by rw [htop]; simp [hc]) w)
    have HC := hid (cut_any n hn ((18446744073709551616 - x) % 18446744073709551616) (by omega) w)
    rw [neg_mod hn hx hc] at HC
    obtain ⟨y, hy⟩ : ∃ y : Nat, y = (18446744073709551616 - x) % 18446744073709551616 := ⟨_, rfl⟩
    obtain ⟨z, hz⟩ : ∃ z : Nat, z = 2 ^ n - x := ⟨_, rfl⟩
    rw [← hy, ← hz] at HC
    rw [← hy] at hneg
    rw [← hz]
    clear h1 h2 h3 h4 htop hc hy hz hn hx hx64
    go_enter Try.func42, Try.ntmps42
    go_wp2_with (first
      | (go_at_call 44; refine HN.out.mono ?_; rintro e w' ⟨rfl, rfl⟩)
      | (go_at_call 26; refine HC.out.mono ?_; rintro e w' ⟨rfl, rfl⟩))
    go_ret
    exact ⟨rfl, rfl⟩
  · rw [if_neg hc]
    have HN := hid (negative_any n hn x hx64 false (by rw [htop]; simp [hc]) w)
    clear hneg h1 h2 h3 h4 htop hc hn hx hx64
    go_enter Try.func42, Try.ntmps42
    go_wp2_with (go_at_call 44; refine HN.out.mono ?_; rintro e w' ⟨rfl, rfl⟩)
    go_ret
    exact ⟨rfl, rfl⟩

theorem ret_int {k : IntKind} {a b : Int} (h : a = b) : Ending.returned (.int k a) = .returned (.int k b) := by rw [h]

theorem Signed_bad (b : Int) (hb : Bad b) (a : Int) (w : World) : Calls Try.prog 22 #[.int .i64 b, .int .u64 a] w fun e w' => e = .returned (.int .i64 0) ∧ w = w' := by
  have HK := hid (known_no b hb w)
  clear hb
  go_enter Try.func22, Try.ntmps22
  go_wp2_with (go_at_call 25; refine HK.out.mono ?_; rintro e w' ⟨rfl, rfl⟩)
  go_ret
  exact ⟨rfl, rfl⟩

theorem Signed_ok (n : Nat) (hn : Okn n) (a : Nat) (ha : a < 18446744073709551616) (w : World) :
    Calls Try.prog 22 #[.int .i64 n, .int .u64 a] w fun e w' => e = .returned (.int .i64 (sg n (a % 2 ^ n))) ∧ w = w' := by
  have HK := hid (known_yes n hn w)
  have ha0 : 0 ≤ (a : Int) := by omega
  have ha1 : (a : Int) < 18446744073709551616 := by omega
  rcases hn with rfl | rfl | rfl | rfl
  · show Calls Try.prog 22 #[.int .i64 8, .int .u64 a] w _
    go_enter Try.func22, Try.ntmps22
    go_wp2_with (go_at_call 25; refine HK.out.mono ?_; rintro e w' ⟨rfl, rfl⟩)
    go_ret
    exact ⟨ret_int (by simp only [sg, IntKind.wrap_u64, wrap64]; simp; omega), rfl⟩
  · show Calls Try.prog 22 #[.int .i64 16, .int .u64 a] w _
    go_enter Try.func22, Try.ntmps22
    go_wp2_with (go_at_call 25; refine HK.out.mono ?_; rintro e w' ⟨rfl, rfl⟩)
    go_ret
    exact ⟨ret_int (by simp only [sg, IntKind.wrap_u64, wrap64]; simp; omega), rfl⟩
  · show Calls Try.prog 22 #[.int .i64 32, .int .u64 a] w _
    go_enter Try.func22, Try.ntmps22
    go_wp2_with (go_at_call 25; refine HK.out.mono ?_; rintro e w' ⟨rfl, rfl⟩)
    go_ret
    exact ⟨ret_int (by simp only [sg, IntKind.wrap_u64, wrap64]; simp; omega), rfl⟩
  · show Calls Try.prog 22 #[.int .i64 64, .int .u64 a] w _
    go_enter Try.func22, Try.ntmps22
    go_wp2_with (go_at_call 25; refine HK.out.mono ?_; rintro e w' ⟨rfl, rfl⟩)
    go_ret
    exact ⟨ret_int (by simp only [sg, wrap64]; simp; omega), rfl⟩

end Go.Proofs.Yticcmbeikdemmaa
