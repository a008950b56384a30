/-
  The contract of the program's Bin, whole: whatever the bits, the operation and the numbers. No condition.
-/
import Derived.Test.YticcmbeikdemmaaBin
namespace Go.Proofs.Yticcmbeikdemmaa
open Go.RowKit

/-- What two come to, by any operation; the error. -/
def binA (bits op : Int) (a b : Nat) : Nat × Nat :=
  if Okn bits.toNat ∧ 1 ≤ op ∧ op ≤ 25 ∧ (op = 25 → bits = 16) then binR bits.toNat op.toNat (a % 2 ^ bits.toNat) (b % 2 ^ bits.toNat) else (0, 1)

set_option maxHeartbeats 800000 in
theorem Bin_25 (a b : Nat) (ha : a < 18446744073709551616) (hb : b < 18446744073709551616) (w : World) :
    Calls Try.prog 16 #[.int .i64 16, .int .i64 25, .int .u64 a, .int .u64 b] w fun e w' => e = .returned (.tuple #[.int .u64 ((binR 16 25 (a % 2 ^ 16) (b % 2 ^ 16)).1 : Nat), .int .i64 ((binR 16 25 (a % 2 ^ 16) (b % 2 ^ 16)).2 : Nat)]) ∧ w = w' := by
  have hn : Okn 16 := .inr (.inl rfl)
  have HK : Hid (Calls Try.prog 25 #[.int .i64 16] w _) := hid (known_yes 16 hn w)
  have HX : Hid (Calls Try.prog 26 #[.int .i64 16, .int .u64 a] w _) := hid (cut_any 16 hn a ha w)
  have HY : Hid (Calls Try.prog 26 #[.int .i64 16, .int .u64 b] w _) := hid (cut_any 16 hn b hb w)
  obtain ⟨x, hx⟩ : ∃ x : Nat, x = a % 2 ^ 16 := ⟨_, rfl⟩
  obtain ⟨y, hy⟩ : ∃ y : Nat, y = b % 2 ^ 16 := ⟨_, rfl⟩
  have hxl : x < 2 ^ 16 := by rw [hx]; exact Nat.mod_lt _ (Nat.two_pow_pos 16)
  have hyl : y < 2 ^ 16 := by rw [hy]; exact Nat.mod_lt _ (Nat.two_pow_pos 16)
  rw [← hx] at HX
  rw [← hy] at HY
  rw [← hx, ← hy]
  clear hx hy ha hb hn
  have HD := hid (fraction_any x y hxl hyl w)
  have hs : binR 16 25 x y = (toN 16 (clampS 16 ((sg 16 x * sg 16 y + 16384) / 32768)), 0) := by
    rw [binR, if_neg (by decide), if_neg (by decide), if_neg (by decide), if_neg (by decide), if_neg (by decide), if_neg (by decide), if_neg (by decide), if_neg (by decide), if_neg (by decide), if_neg (by decide), if_neg (by decide)]
  rw [hs]
  obtain ⟨s, h5⟩ : ∃ s : Nat, s = toN 16 (clampS 16 ((sg 16 x * sg 16 y + 16384) / 32768)) := ⟨_, rfl⟩
  rw [← h5] at HD ⊢
  clear h5 hs hxl hyl
  go_enter Try.func16, Try.ntmps16
  repeat' (first
    | (with_reducible refine wp_exit ?_; repeat (first | with_reducible refine ex_norm ?_ | with_reducible refine ex_then ?_ | with_reducible refine ex_here ?_ | with_reducible refine ex_pass rfl ?_))
    | (go_big_may; first
      | (go_at_call 25; refine HK.out.mono ?_; rintro e w' ⟨rfl, rfl⟩)
      | (go_at_call 26; ((with_reducible refine HX.out.mono ?_); rintro e w' ⟨rfl, rfl⟩))
      | (go_at_call 26; ((with_reducible refine HY.out.mono ?_); rintro e w' ⟨rfl, rfl⟩))
      | (go_at_call 31; refine HD.out.mono ?_; rintro e w' ⟨v, rfl, hv, hc, rfl⟩; have HC : Hid (Calls Try.prog 26 #[.int .i64 16, .int .u64 v] w _) := hid (cut_any 16 (.inr (.inl rfl)) v hv w); rw [hc] at HC; clear hv hc)
      | (go_at_call 26; ((with_reducible refine HC.out.mono ?_); rintro e w' ⟨rfl, rfl⟩)))
    | go_values | go_skip | go_guarded | go_step | go_upon | go_back | dsimp only)
  go_ret2
  exact ⟨rfl, rfl⟩

theorem Bin_25no (n : Nat) (hn : Okn n) (h16 : n ≠ 16) (a b : Nat) (ha : a < 18446744073709551616) (hb : b < 18446744073709551616) (w : World) :
    Calls Try.prog 16 #[.int .i64 n, .int .i64 25, .int .u64 a, .int .u64 b] w fun e w' => e = .returned (.tuple #[.int .u64 0, .int .i64 1]) ∧ w = w' := by
  have HK := hid (known_yes n hn w)
  have HX := hid (cut_any n hn a ha w)
  have HY := hid (cut_any n hn b hb w)
  have hne : ((n : Int) != 16) = true := by simp; omega
  have hne2 : ((n : Int) == 16) = false := by simp; omega
  clear ha hb hn
  go_enter Try.func16, Try.ntmps16
  repeat' (first
    | (with_reducible refine wp_exit ?_; repeat (first | with_reducible refine ex_norm ?_ | with_reducible refine ex_then ?_ | with_reducible refine ex_here ?_ | with_reducible refine ex_pass rfl ?_))
    | (go_big_may; first
      | (go_at_call 25; refine HK.out.mono ?_; rintro e w' ⟨rfl, rfl⟩)
      | (go_at_call 26; ((with_reducible refine HX.out.mono ?_); rintro e w' ⟨rfl, rfl⟩))
      | (go_at_call 26; ((with_reducible refine HY.out.mono ?_); rintro e w' ⟨rfl, rfl⟩)))
    | go_values | go_skip | go_guarded | go_step | go_upon | go_back | dsimp only)
  go_ret2
  exact ⟨rfl, rfl⟩

theorem Bin_noBits (b : Int) (hb : Bad b) (op x y : Int) (w : World) :
    Calls Try.prog 16 #[.int .i64 b, .int .i64 op, .int .u64 x, .int .u64 y] w fun e w' => e = .returned (.tuple #[.int .u64 0, .int .i64 1]) ∧ w = w' := by
  have HK := hid (known_no b hb w)
  clear hb
  go_enter Try.func16, Try.ntmps16
  repeat' (first
    | (with_reducible refine wp_exit ?_; repeat (first | with_reducible refine ex_norm ?_ | with_reducible refine ex_then ?_ | with_reducible refine ex_here ?_ | with_reducible refine ex_pass rfl ?_))
    | (go_big_may; first
      | (go_at_call 25; refine HK.out.mono ?_; rintro e w' ⟨rfl, rfl⟩))
    | go_values | go_skip | go_guarded | go_step | go_upon | go_back | dsimp only)
  go_ret2
  exact ⟨rfl, rfl⟩

set_option maxHeartbeats 800000 in
theorem Bin_noOp (n : Nat) (hn : Okn n) (op : Int) (hop : op < 1 ∨ 25 < op) (a b : Nat) (ha : a < 18446744073709551616) (hb : b < 18446744073709551616) (w : World) :
    Calls Try.prog 16 #[.int .i64 n, .int .i64 op, .int .u64 a, .int .u64 b] w fun e w' => e = .returned (.tuple #[.int .u64 0, .int .i64 1]) ∧ w = w' := by
  have HK := hid (known_yes n hn w)
  have HX := hid (cut_any n hn a ha w)
  have HY := hid (cut_any n hn b hb w)
  have e1 : (op == 1) = false := by simp; omega
  have e2 : (op == 2) = false := by simp; omega
  have e3 : (op == 3) = false := by simp; omega
  have e4 : (op == 4) = false := by simp; omega
  have e5 : (op == 5) = false := by simp; omega
  have e6 : (op == 6) = false := by simp; omega
  have e7 : (op == 7) = false := by simp; omega
  have e8 : (op == 8) = false := by simp; omega
  have e9 : (op == 9) = false := by simp; omega
  have e10 : (op == 10) = false := by simp; omega
  have e11 : (op == 11) = false := by simp; omega
  have e12 : (op == 12) = false := by simp; omega
  have e13 : (op == 13) = false := by simp; omega
  have e14 : (op == 14) = false := by simp; omega
  have e15 : (op == 15) = false := by simp; omega
  have e16 : (op == 16) = false := by simp; omega
  have e17 : (op == 17) = false := by simp; omega
  have e18 : (op == 18) = false := by simp; omega
  have e19 : (op == 19) = false := by simp; omega
  have e20 : (op == 20) = false := by simp; omega
  have e21 : (op == 21) = false := by simp; omega
  have e22 : (op == 22) = false := by simp; omega
  have e23 : (op == 23) = false := by simp; omega
  have e24 : (op == 24) = false := by simp; omega
  have e25 : (op == 25) = false := by simp; omega
  clear ha hb hn hop
  go_enter Try.func16, Try.ntmps16
  repeat' (first
    | (with_reducible refine wp_exit ?_; repeat (first | with_reducible refine ex_norm ?_ | with_reducible refine ex_then ?_ | with_reducible refine ex_here ?_ | with_reducible refine ex_pass rfl ?_))
    | (go_big_may; first
      | (go_at_call 25; refine HK.out.mono ?_; rintro e w' ⟨rfl, rfl⟩)
      | (go_at_call 26; ((with_reducible refine HX.out.mono ?_); rintro e w' ⟨rfl, rfl⟩))
      | (go_at_call 26; ((with_reducible refine HY.out.mono ?_); rintro e w' ⟨rfl, rfl⟩)))
    | go_values | go_skip | go_guarded | go_step | go_upon | go_back | dsimp only)
  go_ret2
  exact ⟨rfl, rfl⟩

/-- Bin: the document's number and error, whatever is asked. -/
theorem Bin_any (bits op : Int) (a b : Nat) (ha : a < 18446744073709551616) (hb : b < 18446744073709551616) (w : World) :
    Calls Try.prog 16 #[.int .i64 bits, .int .i64 op, .int .u64 a, .int .u64 b] w fun e w' => e = .returned (.tuple #[.int .u64 ((binA bits op a b).1 : Nat), .int .i64 ((binA bits op a b).2 : Nat)]) ∧ w = w' := by
  by_cases hbits : Okn bits.toNat
  · obtain ⟨n, rfl⟩ : ∃ n : Nat, bits = (n : Int) := ⟨bits.toNat, by have := hbits.le; omega⟩
    rw [Int.toNat_natCast] at hbits
    by_cases hop : 1 ≤ op ∧ op ≤ 25
    · obtain ⟨k, rfl⟩ : ∃ k : Nat, op = (k : Int) := ⟨op.toNat, by omega⟩
      by_cases h25 : k = 25
      · subst h25
        by_cases h16 : n = 16
        · subst h16
          rw [binA, if_pos ⟨by simpa using hbits, by decide, by decide, fun _ => rfl⟩]
          exact Bin_25 a b ha hb w
        · rw [binA, if_neg (fun h => h16 (by have := h.2.2.2 rfl; omega))]
          exact Bin_25no n hbits h16 a b ha hb w
      · rw [binA, if_pos ⟨by simpa using hbits, by omega, by omega, fun h => absurd h (by omega)⟩, Int.toNat_natCast, Int.toNat_natCast]
        have hk : k = 1 ∨ k = 2 ∨ k = 3 ∨ k = 4 ∨ k = 5 ∨ k = 6 ∨ k = 7 ∨ k = 8 ∨ k = 9 ∨ k = 10 ∨ k = 11 ∨ k = 12 ∨ k = 13 ∨ k = 14 ∨ k = 15 ∨ k = 16 ∨ k = 17 ∨ k = 18 ∨ k = 19 ∨ k = 20 ∨ k = 21 ∨ k = 22 ∨ k = 23 ∨ k = 24 := by omega
        rcases hk with rfl | rfl | rfl | rfl | rfl | rfl | rfl | rfl | rfl | rfl | rfl | rfl | rfl | rfl | rfl | rfl | rfl | rfl | rfl | rfl | rfl | rfl | rfl | rfl
        · exact Bin_1 n hbits a b ha hb w
        · exact Bin_2 n hbits a b ha hb w
        · exact Bin_3 n hbits a b ha hb w
        · exact Bin_4 n hbits a b ha hb w
        · exact Bin_5 n hbits a b ha hb w
        · exact Bin_6 n hbits a b ha hb w
        · exact Bin_7 n hbits a b ha hb w
        · exact Bin_8 n hbits a b ha hb w
        · exact Bin_9 n hbits a b ha hb w
        · exact Bin_10 n hbits a b ha hb w
        · exact Bin_11 n hbits a b ha hb w
        · exact Bin_12 n hbits a b ha hb w
        · exact Bin_13 n hbits a b ha hb w
        · exact Bin_14 n hbits a b ha hb w
        · exact Bin_15 n hbits a b ha hb w
        · exact Bin_16 n hbits a b ha hb w
        · exact Bin_17 n hbits a b ha hb w
        · exact Bin_18 n hbits a b ha hb w
        · exact Bin_19 n hbits a b ha hb w
        · exact Bin_20 n hbits a b ha hb w
        · exact Bin_21 n hbits a b ha hb w
        · exact Bin_22 n hbits a b ha hb w
        · exact Bin_23 n hbits a b ha hb w
        · exact Bin_24 n hbits a b ha hb w
    · rw [binA, if_neg (fun h => hop ⟨h.2.1, h.2.2.1⟩)]
      exact Bin_noOp n hbits op (by omega) a b ha hb w
  · rw [binA, if_neg (fun h => hbits h.1)]
    exact Bin_noBits bits (by unfold Bad; unfold Okn at hbits; omega) op a b w

end Go.Proofs.Yticcmbeikdemmaa
