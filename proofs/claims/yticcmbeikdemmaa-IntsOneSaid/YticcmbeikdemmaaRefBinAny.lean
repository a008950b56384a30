/-
  The contract of the document's own Bin, whole: whatever the bits, the operation and the numbers. No condition.
-/
import Derived.Test.YticcmbeikdemmaaRefBin2
import Derived.Test.YticcmbeikdemmaaRefBin3
namespace Go.Proofs.Yticcmbeikdemmaa
open Go.RowKit

set_option maxRecDepth 100000 in
theorem RBin_noBits (b : Int) (hb : Bad b) (op x y : Int) (w : World) :
    Calls Try.prog 17 #[.int .i64 b, .int .i64 op, .int .u64 x, .int .u64 y] w (DivPost w (0, 1)) := by
  have HK := hid (Right_no b hb w)
  clear hb
  go_enter Try.func17, Try.ntmps17
  repeat' (first
    | (with_reducible refine wp_exit ?_; repeat (first | with_reducible refine ex_norm ?_ | with_reducible refine ex_then ?_ | with_reducible refine ex_here ?_ | with_reducible refine ex_pass rfl ?_))
    | (go_big_may; first
      | (go_at_call 32; refine HK.out.mono ?_; rintro e w' ⟨rfl, rfl⟩))
    | go_values | go_skip | go_guarded | go_step | go_upon | go_back | dsimp only)
  go_ret2
  exact div_post rfl rfl (Below.refl _ _)

set_option maxRecDepth 100000 in
theorem RBin_low (n : Nat) (hn : Okn n) (op x y : Int) (hop : op < 1) (w : World) :
    Calls Try.prog 17 #[.int .i64 n, .int .i64 op, .int .u64 x, .int .u64 y] w (DivPost w (0, 1)) := by
  have HK := hid (Right_yes n hn w)
  have h1 : decide (op < 1) = true := decide_eq_true hop
  clear hn hop
  go_enter Try.func17, Try.ntmps17
  repeat' (first
    | (with_reducible refine wp_exit ?_; repeat (first | with_reducible refine ex_norm ?_ | with_reducible refine ex_then ?_ | with_reducible refine ex_here ?_ | with_reducible refine ex_pass rfl ?_))
    | (go_big_may; first
      | (go_at_call 32; refine HK.out.mono ?_; rintro e w' ⟨rfl, rfl⟩))
    | go_values | go_skip | go_guarded | go_step | go_upon | go_back | dsimp only)
  go_ret2
  exact div_post rfl rfl (Below.refl _ _)

set_option maxRecDepth 100000 in
theorem RBin_high (n : Nat) (hn : Okn n) (op x y : Int) (hop : 25 < op) (w : World) :
    Calls Try.prog 17 #[.int .i64 n, .int .i64 op, .int .u64 x, .int .u64 y] w (DivPost w (0, 1)) := by
  have HK := hid (Right_yes n hn w)
  have h1 : decide (op < 1) = false := decide_eq_false (by omega)
  have h2 : decide (25 < op) = true := decide_eq_true hop
  clear hn hop
  go_enter Try.func17, Try.ntmps17
  repeat' (first
    | (with_reducible refine wp_exit ?_; repeat (first | with_reducible refine ex_norm ?_ | with_reducible refine ex_then ?_ | with_reducible refine ex_here ?_ | with_reducible refine ex_pass rfl ?_))
    | (go_big_may; first
      | (go_at_call 32; refine HK.out.mono ?_; rintro e w' ⟨rfl, rfl⟩))
    | go_values | go_skip | go_guarded | go_step | go_upon | go_back | dsimp only)
  go_ret2
  exact div_post rfl rfl (Below.refl _ _)

set_option maxRecDepth 100000 in
theorem RBin_25no (n : Nat) (hn : Okn n) (h16 : n ≠ 16) (x y : Int) (w : World) :
    Calls Try.prog 17 #[.int .i64 n, .int .i64 25, .int .u64 x, .int .u64 y] w (DivPost w (0, 1)) := by
  have HK := hid (Right_yes n hn w)
  have hne : ((n : Int) != 16) = true := by simp; omega
  clear hn h16
  go_enter Try.func17, Try.ntmps17
  repeat' (first
    | (with_reducible refine wp_exit ?_; repeat (first | with_reducible refine ex_norm ?_ | with_reducible refine ex_then ?_ | with_reducible refine ex_here ?_ | with_reducible refine ex_pass rfl ?_))
    | (go_big_may; first
      | (go_at_call 32; refine HK.out.mono ?_; rintro e w' ⟨rfl, rfl⟩))
    | go_values | go_skip | go_guarded | go_step | go_upon | go_back | dsimp only)
  go_ret2
  exact div_post rfl rfl (Below.refl _ _)

set_option maxRecDepth 100000 in
set_option maxHeartbeats 1600000 in
theorem RBin_25 (a b : Nat) (ha : a < 18446744073709551616) (hb : b < 18446744073709551616) (w : World) :
    Calls Try.prog 17 #[.int .i64 16, .int .i64 25, .int .u64 a, .int .u64 b] w (DivPost w (binR 16 25 (a % 2 ^ 16) (b % 2 ^ 16))) := by
  have hn : Okn 16 := .inr (.inl rfl)
  have HK : Hid (Calls Try.prog 32 #[.int .i64 16] w _) := hid (Right_yes 16 hn w)
  have HX : Hid (Calls Try.prog 24 #[.int .i64 16, .int .u64 a] w _) := hid (Cut_any 16 hn a ha w)
  have HY : Hid (Calls Try.prog 24 #[.int .i64 16, .int .u64 b] w _) := hid (Cut_any 16 hn b hb w)
  obtain ⟨x, hx⟩ : ∃ x : Nat, x = a % 2 ^ 16 := ⟨_, rfl⟩
  obtain ⟨y, hy⟩ : ∃ y : Nat, y = b % 2 ^ 16 := ⟨_, rfl⟩
  have hxl : x < 2 ^ 16 := by rw [hx]; exact Nat.mod_lt _ (Nat.two_pow_pos 16)
  have hyl : y < 2 ^ 16 := by rw [hy]; exact Nat.mod_lt _ (Nat.two_pow_pos 16)
  have HSX : Hid (Calls Try.prog 23 #[.int .i64 16, .int .u64 x] w _) := hid (RSigned_cut 16 hn x hxl w)
  have HSY : Hid (Calls Try.prog 23 #[.int .i64 16, .int .u64 y] w _) := hid (RSigned_cut 16 hn y hyl w)
  rw [← hx] at HX
  rw [← hy] at HY
  rw [← hx, ← hy]
  have hs : binR 16 25 x y = (toN 16 (clampS 16 ((sg 16 x * sg 16 y + 16384) / 32768)), 0) := by
    rw [binR, if_neg (by decide), if_neg (by decide), if_neg (by decide), if_neg (by decide), if_neg (by decide), if_neg (by decide), if_neg (by decide), if_neg (by decide), if_neg (by decide), if_neg (by decide), if_neg (by decide)]
  rw [hs]
  have HD := hid (held_25 x y hxl hyl w)
  obtain ⟨s, h5⟩ : ∃ s : Nat, s = toN 16 (clampS 16 ((sg 16 x * sg 16 y + 16384) / 32768)) := ⟨_, rfl⟩
  rw [← h5] at HD ⊢
  obtain ⟨sx, hsx⟩ : ∃ s, s = sg 16 x := ⟨_, rfl⟩
  obtain ⟨sy, hsy⟩ : ∃ s, s = sg 16 y := ⟨_, rfl⟩
  rw [← hsx] at HSX HD
  rw [← hsy] at HSY HD
  clear ha hb hx hy hn hxl hyl hs h5 hsx hsy
  go_enter Try.func17, Try.ntmps17
  repeat' (first
    | (with_reducible refine wp_exit ?_; repeat (first | with_reducible refine ex_norm ?_ | with_reducible refine ex_then ?_ | with_reducible refine ex_here ?_ | with_reducible refine ex_pass rfl ?_))
    | (go_big_may; first
      | (go_at_call 32; refine HK.out.mono ?_; rintro e w' ⟨rfl, rfl⟩)
      | (go_at_call 24; ((with_reducible refine HX.out.mono ?_); rintro e w' ⟨rfl, rfl⟩))
      | (go_at_call 24; ((with_reducible refine HY.out.mono ?_); rintro e w' ⟨rfl, rfl⟩))
      | (go_at_call 23; ((with_reducible refine HSX.out.mono ?_); rintro e w' ⟨rfl, rfl⟩))
      | (go_at_call 23; ((with_reducible refine HSY.out.mono ?_); rintro e w' ⟨rfl, rfl⟩))
      | (go_at_call 38; refine HD.out.mono ?_; rintro e w' ⟨rfl, rfl⟩))
    | go_values | go_skip | go_guarded | go_step | go_upon | go_back | dsimp only)
  go_ret2
  exact div_post rfl rfl (Below.refl _ _)

/-- Bin of the document: the number and error, whatever is asked. -/
theorem RBin_any (bits op : Int) (a b : Nat) (ha : a < 18446744073709551616) (hb : b < 18446744073709551616) (w : World) :
    Calls Try.prog 17 #[.int .i64 bits, .int .i64 op, .int .u64 a, .int .u64 b] w (DivPost w (binA bits op a b)) := by
  by_cases hbits : Okn bits.toNat
  · obtain ⟨n, rfl⟩ : ∃ n : Nat, bits = (n : Int) := ⟨bits.toNat, by have := hbits.le; omega⟩
    rw [Int.toNat_natCast] at hbits
    by_cases hop : 1 ≤ op ∧ op ≤ 25
    · obtain ⟨k, rfl⟩ : ∃ k : Nat, op = (k : Int) := ⟨op.toNat, by omega⟩
      by_cases h25 : k = 25
      · subst h25
        by_cases h16 : n = 16
        · subst h16
          rw [binA, if_pos ⟨by simpa using hbits, by decide, by decide, fun _ => rfl⟩]
          exact RBin_25 a b ha hb w
        · rw [binA, if_neg (fun h => h16 (by have := h.2.2.2 rfl; omega))]
          exact RBin_25no n hbits h16 a b w
      · rw [binA, if_pos ⟨by simpa using hbits, by omega, by omega, fun h => absurd h (by omega)⟩, Int.toNat_natCast, Int.toNat_natCast]
        have hk : k = 1 ∨ k = 2 ∨ k = 3 ∨ k = 4 ∨ k = 5 ∨ k = 6 ∨ k = 7 ∨ k = 8 ∨ k = 9 ∨ k = 10 ∨ k = 11 ∨ k = 12 ∨ k = 13 ∨ k = 14 ∨ k = 15 ∨ k = 16 ∨ k = 17 ∨ k = 18 ∨ k = 19 ∨ k = 20 ∨ k = 21 ∨ k = 22 ∨ k = 23 ∨ k = 24 := by omega
        rcases hk with rfl | rfl | rfl | rfl | rfl | rfl | rfl | rfl | rfl | rfl | rfl | rfl | rfl | rfl | rfl | rfl | rfl | rfl | rfl | rfl | rfl | rfl | rfl | rfl
        · exact RBin_1 n hbits a b ha hb w
        · exact RBin_2 n hbits a b ha hb w
        · exact RBin_3 n hbits a b ha hb w
        · exact RBin_4 n hbits a b ha hb w
        · exact RBin_5 n hbits a b ha hb w
        · exact RBin_6 n hbits a b ha hb w
        · exact RBin_7 n hbits a b ha hb w
        · exact RBin_8 n hbits a b ha hb w
        · exact RBin_9 n hbits a b ha hb w
        · exact RBin_10 n hbits a b ha hb w
        · exact RBin_11 n hbits a b ha hb w
        · exact RBin_12 n hbits a b ha hb w
        · exact RBin_13 n hbits a b ha hb w
        · exact RBin_14 n hbits a b ha hb w
        · exact RBin_15 n hbits a b ha hb w
        · exact RBin_16 n hbits a b ha hb w
        · exact RBin_17 n hbits a b ha hb w
        · exact RBin_18 n hbits a b ha hb w
        · exact RBin_19 n hbits a b ha hb w
        · exact RBin_20 n hbits a b ha hb w
        · exact RBin_21 n hbits a b ha hb w
        · exact RBin_22 n hbits a b ha hb w
        · exact RBin_23 n hbits a b ha hb w
        · exact RBin_24 n hbits a b ha hb w
    · rw [binA, if_neg (fun h => hop ⟨h.2.1, h.2.2.1⟩)]
      by_cases h1 : op < 1
      · exact RBin_low n hbits op a b h1 w
      · exact RBin_high n hbits op a b (by omega) w
  · rw [binA, if_neg (fun h => hbits h.1)]
    exact RBin_noBits bits (by unfold Bad; unfold Okn at hbits; omega) op a b w

end Go.Proofs.Yticcmbeikdemmaa
