/-
  The contract of the document's own Rel, whole: whatever the bits, the operation and the numbers. No condition.
-/
import Derived.Test.YticcmbeikdemmaaRel
import Derived.Test.YticcmbeikdemmaaRefBin
namespace Go.Proofs.Yticcmbeikdemmaa
open Go.RowKit

def RelPost (w : World) (s : Bool × Nat) (e : Ending) (w' : World) : Prop := e = .returned (.tuple #[.bool s.1, .int .i64 (s.2 : Nat)]) ∧ Below w.heap.size w w'

theorem rel_post {w w' : World} {s : Bool × Nat} {v : Bool} {c : Int} (h1 : v = s.1) (h2 : c = (s.2 : Nat)) (hb : Below w.heap.size w w') : RelPost w s (.returned (.tuple #[.bool v, .int .i64 c])) w' := by
  subst h1; subst h2; exact ⟨rfl, hb⟩

set_option maxRecDepth 100000 in
set_option maxHeartbeats 800000 in
theorem RRel_1 (n : Nat) (hn : Okn n) (a b : Nat) (ha : a < 18446744073709551616) (hb : b < 18446744073709551616) (w : World) :
    Calls Try.prog 19 #[.int .i64 n, .int .i64 1, .int .u64 a, .int .u64 b] w (RelPost w (relR n 1 (a % 2 ^ n) (b % 2 ^ n), 0)) := by
  have HK := hid (Right_yes n hn w)
  have HX := hid (Cut_any n hn a ha w)
  have HY := hid (Cut_any n hn b hb w)
  obtain ⟨x, hx⟩ : ∃ x : Nat, x = a % 2 ^ n := ⟨_, rfl⟩
  obtain ⟨y, hy⟩ : ∃ y : Nat, y = b % 2 ^ n := ⟨_, rfl⟩
  have hxl : x < 2 ^ n := by rw [hx]; exact Nat.mod_lt _ (Nat.two_pow_pos n)
  have hyl : y < 2 ^ n := by rw [hy]; exact Nat.mod_lt _ (Nat.two_pow_pos n)
  have HSX := hid (RSigned_cut n hn x hxl w)
  have HSY := hid (RSigned_cut n hn y hyl w)
  rw [← hx] at HX
  rw [← hy] at HY
  rw [← hx, ← hy]
  obtain ⟨sx, hsx⟩ : ∃ s, s = sg n x := ⟨_, rfl⟩
  obtain ⟨sy, hsy⟩ : ∃ s, s = sg n y := ⟨_, rfl⟩
  rw [← hsx] at HSX
  rw [← hsy] at HSY
  have hd : relR n 1 x y = decide (x = y) := by rw [relR, if_pos rfl]
  rw [hd]
  clear hx hy ha hb hn hxl hyl hsx hsy hd
  go_enter Try.func19, Try.ntmps19
  go_wp2_with (first
      | (go_at_call 32; refine HK.out.mono ?_; rintro e w' ⟨rfl, rfl⟩)
      | (go_at_call 24; ((with_reducible refine HX.out.mono ?_); rintro e w' ⟨rfl, rfl⟩))
      | (go_at_call 24; ((with_reducible refine HY.out.mono ?_); rintro e w' ⟨rfl, rfl⟩))
      | (go_at_call 23; ((with_reducible refine HSX.out.mono ?_); rintro e w' ⟨rfl, rfl⟩))
      | (go_at_call 23; ((with_reducible refine HSY.out.mono ?_); rintro e w' ⟨rfl, rfl⟩)))
  go_ret2
  refine rel_post ?_ rfl ?_
  · first | rfl | (rw [Bool.eq_iff_iff]; simp; try omega)
  · exact (Below.refl _ _).alloc (Nat.le_refl _) _

set_option maxRecDepth 100000 in
set_option maxHeartbeats 800000 in
theorem RRel_2 (n : Nat) (hn : Okn n) (a b : Nat) (ha : a < 18446744073709551616) (hb : b < 18446744073709551616) (w : World) :
    Calls Try.prog 19 #[.int .i64 n, .int .i64 2, .int .u64 a, .int .u64 b] w (RelPost w (relR n 2 (a % 2 ^ n) (b % 2 ^ n), 0)) := by
  have HK := hid (Right_yes n hn w)
  have HX := hid (Cut_any n hn a ha w)
  have HY := hid (Cut_any n hn b hb w)
  obtain ⟨x, hx⟩ : ∃ x : Nat, x = a % 2 ^ n := ⟨_, rfl⟩
  obtain ⟨y, hy⟩ : ∃ y : Nat, y = b % 2 ^ n := ⟨_, rfl⟩
  have hxl : x < 2 ^ n := by rw [hx]; exact Nat.mod_lt _ (Nat.two_pow_pos n)
  have hyl : y < 2 ^ n := by rw [hy]; exact Nat.mod_lt _ (Nat.two_pow_pos n)
  have HSX := hid (RSigned_cut n hn x hxl w)
  have HSY := hid (RSigned_cut n hn y hyl w)
  rw [← hx] at HX
  rw [← hy] at HY
  rw [← hx, ← hy]
  obtain ⟨sx, hsx⟩ : ∃ s, s = sg n x := ⟨_, rfl⟩
  obtain ⟨sy, hsy⟩ : ∃ s, s = sg n y := ⟨_, rfl⟩
  rw [← hsx] at HSX
  rw [← hsy] at HSY
  have hd : relR n 2 x y = decide (x ≠ y) := by rw [relR, if_neg (by decide), if_pos rfl]
  rw [hd]
  clear hx hy ha hb hn hxl hyl hsx hsy hd
  go_enter Try.func19, Try.ntmps19
  go_wp2_with (first
      | (go_at_call 32; refine HK.out.mono ?_; rintro e w' ⟨rfl, rfl⟩)
      | (go_at_call 24; ((with_reducible refine HX.out.mono ?_); rintro e w' ⟨rfl, rfl⟩))
      | (go_at_call 24; ((with_reducible refine HY.out.mono ?_); rintro e w' ⟨rfl, rfl⟩))
      | (go_at_call 23; ((with_reducible refine HSX.out.mono ?_); rintro e w' ⟨rfl, rfl⟩))
      | (go_at_call 23; ((with_reducible refine HSY.out.mono ?_); rintro e w' ⟨rfl, rfl⟩)))
  go_ret2
  refine rel_post ?_ rfl ?_
  · first | rfl | (rw [Bool.eq_iff_iff]; simp; try omega)
  · exact (Below.refl _ _).alloc (Nat.le_refl _) _

set_option maxRecDepth 100000 in
set_option maxHeartbeats 800000 in
theorem RRel_3 (n : Nat) (hn : Okn n) (a b : Nat) (ha : a < 18446744073709551616) (hb : b < 18446744073709551616) (w : World) :
    Calls Try.prog 19 #[.int .i64 n, .int .i64 3, .int .u64 a, .int .u64 b] w (RelPost w (relR n 3 (a % 2 ^ n) (b % 2 ^ n), 0)) := by
  have HK := hid (Right_yes n hn w)
  have HX := hid (Cut_any n hn a ha w)
  have HY := hid (Cut_any n hn b hb w)
  obtain ⟨x, hx⟩ : ∃ x : Nat, x = a % 2 ^ n := ⟨_, rfl⟩
  obtain ⟨y, hy⟩ : ∃ y : Nat, y = b % 2 ^ n := ⟨_, rfl⟩
  have hxl : x < 2 ^ n := by rw [hx]; exact Nat.mod_lt _ (Nat.two_pow_pos n)
  have hyl : y < 2 ^ n := by rw [hy]; exact Nat.mod_lt _ (Nat.two_pow_pos n)
  have HSX := hid (RSigned_cut n hn x hxl w)
  have HSY := hid (RSigned_cut n hn y hyl w)
  rw [← hx] at HX
  rw [← hy] at HY
  rw [← hx, ← hy]
  obtain ⟨sx, hsx⟩ : ∃ s, s = sg n x := ⟨_, rfl⟩
  obtain ⟨sy, hsy⟩ : ∃ s, s = sg n y := ⟨_, rfl⟩
  rw [← hsx] at HSX
  rw [← hsy] at HSY
  have hd : relR n 3 x y = decide (sx < sy) := by rw [relR, if_neg (by decide), if_neg (by decide), if_pos rfl, ← hsx, ← hsy]
  rw [hd]
  clear hx hy ha hb hn hxl hyl hsx hsy hd
  go_enter Try.func19, Try.ntmps19
  go_wp2_with (first
      | (go_at_call 32; refine HK.out.mono ?_; rintro e w' ⟨rfl, rfl⟩)
      | (go_at_call 24; ((with_reducible refine HX.out.mono ?_); rintro e w' ⟨rfl, rfl⟩))
      | (go_at_call 24; ((with_reducible refine HY.out.mono ?_); rintro e w' ⟨rfl, rfl⟩))
      | (go_at_call 23; ((with_reducible refine HSX.out.mono ?_); rintro e w' ⟨rfl, rfl⟩))
      | (go_at_call 23; ((with_reducible refine HSY.out.mono ?_); rintro e w' ⟨rfl, rfl⟩)))
  go_ret2
  refine rel_post ?_ rfl ?_
  · first | rfl | (rw [Bool.eq_iff_iff]; simp; try omega)
  · exact (Below.refl _ _).alloc (Nat.le_refl _) _

set_option maxRecDepth 100000 in
set_option maxHeartbeats 800000 in
theorem RRel_4 (n : Nat) (hn : Okn n) (a b : Nat) (ha : a < 18446744073709551616) (hb : b < 18446744073709551616) (w : World) :
    Calls Try.prog 19 #[.int .i64 n, .int .i64 4, .int .u64 a, .int .u64 b] w (RelPost w (relR n 4 (a % 2 ^ n) (b % 2 ^ n), 0)) := by
  have HK := hid (Right_yes n hn w)
  have HX := hid (Cut_any n hn a ha w)
  have HY := hid (Cut_any n hn b hb w)
  obtain ⟨x, hx⟩ : ∃ x : Nat, x = a % 2 ^ n := ⟨_, rfl⟩
  obtain ⟨y, hy⟩ : ∃ y : Nat, y = b % 2 ^ n := ⟨_, rfl⟩
  have hxl : x < 2 ^ n := by rw [hx]; exact Nat.mod_lt _ (Nat.two_pow_pos n)
  have hyl : y < 2 ^ n := by rw [hy]; exact Nat.mod_lt _ (Nat.two_pow_pos n)
  have HSX := hid (RSigned_cut n hn x hxl w)
  have HSY := hid (RSigned_cut n hn y hyl w)
  rw [← hx] at HX
  rw [← hy] at HY
  rw [← hx, ← hy]
  obtain ⟨sx, hsx⟩ : ∃ s, s = sg n x := ⟨_, rfl⟩
  obtain ⟨sy, hsy⟩ : ∃ s, s = sg n y := ⟨_, rfl⟩
  rw [← hsx] at HSX
  rw [← hsy] at HSY
  have hd : relR n 4 x y = decide (x < y) := by rw [relR, if_neg (by decide), if_neg (by decide), if_neg (by decide), if_pos rfl]
  rw [hd]
  clear hx hy ha hb hn hxl hyl hsx hsy hd
  go_enter Try.func19, Try.ntmps19
  go_wp2_with (first
      | (go_at_call 32; refine HK.out.mono ?_; rintro e w' ⟨rfl, rfl⟩)
      | (go_at_call 24; ((with_reducible refine HX.out.mono ?_); rintro e w' ⟨rfl, rfl⟩))
      | (go_at_call 24; ((with_reducible refine HY.out.mono ?_); rintro e w' ⟨rfl, rfl⟩))
      | (go_at_call 23; ((with_reducible refine HSX.out.mono ?_); rintro e w' ⟨rfl, rfl⟩))
      | (go_at_call 23; ((with_reducible refine HSY.out.mono ?_); rintro e w' ⟨rfl, rfl⟩)))
  go_ret2
  refine rel_post ?_ rfl ?_
  · first | rfl | (rw [Bool.eq_iff_iff]; simp; try omega)
  · exact (Below.refl _ _).alloc (Nat.le_refl _) _

set_option maxRecDepth 100000 in
set_option maxHeartbeats 800000 in
theorem RRel_5 (n : Nat) (hn : Okn n) (a b : Nat) (ha : a < 18446744073709551616) (hb : b < 18446744073709551616) (w : World) :
    Calls Try.prog 19 #[.int .i64 n, .int .i64 5, .int .u64 a, .int .u64 b] w (RelPost w (relR n 5 (a % 2 ^ n) (b % 2 ^ n), 0)) := by
  have HK := hid (Right_yes n hn w)
  have HX := hid (Cut_any n hn a ha w)
  have HY := hid (Cut_any n hn b hb w)
  obtain ⟨x, hx⟩ : ∃ x : Nat, x = a % 2 ^ n := ⟨_, rfl⟩
  obtain ⟨y, hy⟩ : ∃ y : Nat, y = b % 2 ^ n := ⟨_, rfl⟩
  have hxl : x < 2 ^ n := by rw [hx]; exact Nat.mod_lt _ (Nat.two_pow_pos n)
  have hyl : y < 2 ^ n := by rw [hy]; exact Nat.mod_lt _ (Nat.two_pow_pos n)
  have HSX := hid (RSigned_cut n hn x hxl w)
  have HSY := hid (RSigned_cut n hn y hyl w)
  rw [← hx] at HX
  rw [← hy] at HY
  rw [← hx, ← hy]
  obtain ⟨sx, hsx⟩ : ∃ s, s = sg n x := ⟨_, rfl⟩
  obtain ⟨sy, hsy⟩ : ∃ s, s = sg n y := ⟨_, rfl⟩
  rw [← hsx] at HSX
  rw [← hsy] at HSY
  have hd : relR n 5 x y = decide (sy < sx) := by rw [relR, if_neg (by decide), if_neg (by decide), if_neg (by decide), if_neg (by decide), if_pos rfl, ← hsx, ← hsy]
  rw [hd]
  clear hx hy ha hb hn hxl hyl hsx hsy hd
  go_enter Try.func19, Try.ntmps19
  go_wp2_with (first
      | (go_at_call 32; refine HK.out.mono ?_; rintro e w' ⟨rfl, rfl⟩)
      | (go_at_call 24; ((with_reducible refine HX.out.mono ?_); rintro e w' ⟨rfl, rfl⟩))
      | (go_at_call 24; ((with_reducible refine HY.out.mono ?_); rintro e w' ⟨rfl, rfl⟩))
      | (go_at_call 23; ((with_reducible refine HSX.out.mono ?_); rintro e w' ⟨rfl, rfl⟩))
      | (go_at_call 23; ((with_reducible refine HSY.out.mono ?_); rintro e w' ⟨rfl, rfl⟩)))
  go_ret2
  refine rel_post ?_ rfl ?_
  · first | rfl | (rw [Bool.eq_iff_iff]; simp; try omega)
  · exact (Below.refl _ _).alloc (Nat.le_refl _) _

set_option maxRecDepth 100000 in
set_option maxHeartbeats 800000 in
theorem RRel_6 (n : Nat) (hn : Okn n) (a b : Nat) (ha : a < 18446744073709551616) (hb : b < 18446744073709551616) (w : World) :
    Calls Try.prog 19 #[.int .i64 n, .int .i64 6, .int .u64 a, .int .u64 b] w (RelPost w (relR n 6 (a % 2 ^ n) (b % 2 ^ n), 0)) := by
  have HK := hid (Right_yes n hn w)
  have HX := hid (Cut_any n hn a ha w)
  have HY := hid (Cut_any n hn b hb w)
  obtain ⟨x, hx⟩ : ∃ x : Nat, x = a % 2 ^ n := ⟨_, rfl⟩
  obtain ⟨y, hy⟩ : ∃ y : Nat, y = b % 2 ^ n := ⟨_, rfl⟩
  have hxl : x < 2 ^ n := by rw [hx]; exact Nat.mod_lt _ (Nat.two_pow_pos n)
  have hyl : y < 2 ^ n := by rw [hy]; exact Nat.mod_lt _ (Nat.two_pow_pos n)
  have HSX := hid (RSigned_cut n hn x hxl w)
  have HSY := hid (RSigned_cut n hn y hyl w)
  rw [← hx] at HX
  rw [← hy] at HY
  rw [← hx, ← hy]
  obtain ⟨sx, hsx⟩ : ∃ s, s = sg n x := ⟨_, rfl⟩
  obtain ⟨sy, hsy⟩ : ∃ s, s = sg n y := ⟨_, rfl⟩
  rw [← hsx] at HSX
  rw [← hsy] at HSY
  have hd : relR n 6 x y = decide (y < x) := by rw [relR, if_neg (by decide), if_neg (by decide), if_neg (by decide), if_neg (by decide), if_neg (by decide), if_pos rfl]
  rw [hd]
  clear hx hy ha hb hn hxl hyl hsx hsy hd
  go_enter Try.func19, Try.ntmps19
  go_wp2_with (first
      | (go_at_call 32; refine HK.out.mono ?_; rintro e w' ⟨rfl, rfl⟩)
      | (go_at_call 24; ((with_reducible refine HX.out.mono ?_); rintro e w' ⟨rfl, rfl⟩))
      | (go_at_call 24; ((with_reducible refine HY.out.mono ?_); rintro e w' ⟨rfl, rfl⟩))
      | (go_at_call 23; ((with_reducible refine HSX.out.mono ?_); rintro e w' ⟨rfl, rfl⟩))
      | (go_at_call 23; ((with_reducible refine HSY.out.mono ?_); rintro e w' ⟨rfl, rfl⟩)))
  go_ret2
  refine rel_post ?_ rfl ?_
  · first | rfl | (rw [Bool.eq_iff_iff]; simp; try omega)
  · exact (Below.refl _ _).alloc (Nat.le_refl _) _

set_option maxRecDepth 100000 in
set_option maxHeartbeats 800000 in
theorem RRel_7 (n : Nat) (hn : Okn n) (a b : Nat) (ha : a < 18446744073709551616) (hb : b < 18446744073709551616) (w : World) :
    Calls Try.prog 19 #[.int .i64 n, .int .i64 7, .int .u64 a, .int .u64 b] w (RelPost w (relR n 7 (a % 2 ^ n) (b % 2 ^ n), 0)) := by
  have HK := hid (Right_yes n hn w)
  have HX := hid (Cut_any n hn a ha w)
  have HY := hid (Cut_any n hn b hb w)
  obtain ⟨x, hx⟩ : ∃ x : Nat, x = a % 2 ^ n := ⟨_, rfl⟩
  obtain ⟨y, hy⟩ : ∃ y : Nat, y = b % 2 ^ n := ⟨_, rfl⟩
  have hxl : x < 2 ^ n := by rw [hx]; exact Nat.mod_lt _ (Nat.two_pow_pos n)
  have hyl : y < 2 ^ n := by rw [hy]; exact Nat.mod_lt _ (Nat.two_pow_pos n)
  have HSX := hid (RSigned_cut n hn x hxl w)
  have HSY := hid (RSigned_cut n hn y hyl w)
  rw [← hx] at HX
  rw [← hy] at HY
  rw [← hx, ← hy]
  obtain ⟨sx, hsx⟩ : ∃ s, s = sg n x := ⟨_, rfl⟩
  obtain ⟨sy, hsy⟩ : ∃ s, s = sg n y := ⟨_, rfl⟩
  rw [← hsx] at HSX
  rw [← hsy] at HSY
  have hd : relR n 7 x y = decide (sx ≤ sy) := by rw [relR, if_neg (by decide), if_neg (by decide), if_neg (by decide), if_neg (by decide), if_neg (by decide), if_neg (by decide), if_pos rfl, ← hsx, ← hsy]
  rw [hd]
  clear hx hy ha hb hn hxl hyl hsx hsy hd
  go_enter Try.func19, Try.ntmps19
  go_wp2_with (first
      | (go_at_call 32; refine HK.out.mono ?_; rintro e w' ⟨rfl, rfl⟩)
      | (go_at_call 24; ((with_reducible refine HX.out.mono ?_); rintro e w' ⟨rfl, rfl⟩))
      | (go_at_call 24; ((with_reducible refine HY.out.mono ?_); rintro e w' ⟨rfl, rfl⟩))
      | (go_at_call 23; ((with_reducible refine HSX.out.mono ?_); rintro e w' ⟨rfl, rfl⟩))
      | (go_at_call 23; ((with_reducible refine HSY.out.mono ?_); rintro e w' ⟨rfl, rfl⟩)))
  go_ret2
  refine rel_post ?_ rfl ?_
  · first | rfl | (rw [Bool.eq_iff_iff]; simp; try omega)
  · exact (Below.refl _ _).alloc (Nat.le_refl _) _

set_option maxRecDepth 100000 in
set_option maxHeartbeats 800000 in
theorem RRel_8 (n : Nat) (hn : Okn n) (a b : Nat) (ha : a < 18446744073709551616) (hb : b < 18446744073709551616) (w : World) :
    Calls Try.prog 19 #[.int .i64 n, .int .i64 8, .int .u64 a, .int .u64 b] w (RelPost w (relR n 8 (a % 2 ^ n) (b % 2 ^ n), 0)) := by
  have HK := hid (Right_yes n hn w)
  have HX := hid (Cut_any n hn a ha w)
  have HY := hid (Cut_any n hn b hb w)
  obtain ⟨x, hx⟩ : ∃ x : Nat, x = a % 2 ^ n := ⟨_, rfl⟩
  obtain ⟨y, hy⟩ : ∃ y : Nat, y = b % 2 ^ n := ⟨_, rfl⟩
  have hxl : x < 2 ^ n := by rw [hx]; exact Nat.mod_lt _ (Nat.two_pow_pos n)
  have hyl : y < 2 ^ n := by rw [hy]; exact Nat.mod_lt _ (Nat.two_pow_pos n)
  have HSX := hid (RSigned_cut n hn x hxl w)
  have HSY := hid (RSigned_cut n hn y hyl w)
  rw [← hx] at HX
  rw [← hy] at HY
  rw [← hx, ← hy]
  obtain ⟨sx, hsx⟩ : ∃ s, s = sg n x := ⟨_, rfl⟩
  obtain ⟨sy, hsy⟩ : ∃ s, s = sg n y := ⟨_, rfl⟩
  rw [← hsx] at HSX
  rw [← hsy] at HSY
  have hd : relR n 8 x y = decide (x ≤ y) := by rw [relR, if_neg (by decide), if_neg (by decide), if_neg (by decide), if_neg (by decide), if_neg (by decide), if_neg (by decide), if_neg (by decide), if_pos rfl]
  rw [hd]
  clear hx hy ha hb hn hxl hyl hsx hsy hd
  go_enter Try.func19, Try.ntmps19
  go_wp2_with (first
      | (go_at_call 32; refine HK.out.mono ?_; rintro e w' ⟨rfl, rfl⟩)
      | (go_at_call 24; ((with_reducible refine HX.out.mono ?_); rintro e w' ⟨rfl, rfl⟩))
      | (go_at_call 24; ((with_reducible refine HY.out.mono ?_); rintro e w' ⟨rfl, rfl⟩))
      | (go_at_call 23; ((with_reducible refine HSX.out.mono ?_); rintro e w' ⟨rfl, rfl⟩))
      | (go_at_call 23; ((with_reducible refine HSY.out.mono ?_); rintro e w' ⟨rfl, rfl⟩)))
  go_ret2
  refine rel_post ?_ rfl ?_
  · first | rfl | (rw [Bool.eq_iff_iff]; simp; try omega)
  · exact (Below.refl _ _).alloc (Nat.le_refl _) _

set_option maxRecDepth 100000 in
set_option maxHeartbeats 800000 in
theorem RRel_9 (n : Nat) (hn : Okn n) (a b : Nat) (ha : a < 18446744073709551616) (hb : b < 18446744073709551616) (w : World) :
    Calls Try.prog 19 #[.int .i64 n, .int .i64 9, .int .u64 a, .int .u64 b] w (RelPost w (relR n 9 (a % 2 ^ n) (b % 2 ^ n), 0)) := by
  have HK := hid (Right_yes n hn w)
  have HX := hid (Cut_any n hn a ha w)
  have HY := hid (Cut_any n hn b hb w)
  obtain ⟨x, hx⟩ : ∃ x : Nat, x = a % 2 ^ n := ⟨_, rfl⟩
  obtain ⟨y, hy⟩ : ∃ y : Nat, y = b % 2 ^ n := ⟨_, rfl⟩
  have hxl : x < 2 ^ n := by rw [hx]; exact Nat.mod_lt _ (Nat.two_pow_pos n)
  have hyl : y < 2 ^ n := by rw [hy]; exact Nat.mod_lt _ (Nat.two_pow_pos n)
  have HSX := hid (RSigned_cut n hn x hxl w)
  have HSY := hid (RSigned_cut n hn y hyl w)
  rw [← hx] at HX
  rw [← hy] at HY
  rw [← hx, ← hy]
  obtain ⟨sx, hsx⟩ : ∃ s, s = sg n x := ⟨_, rfl⟩
  obtain ⟨sy, hsy⟩ : ∃ s, s = sg n y := ⟨_, rfl⟩
  rw [← hsx] at HSX
  rw [← hsy] at HSY
  have hd : relR n 9 x y = decide (sy ≤ sx) := by rw [relR, if_neg (by decide), if_neg (by decide), if_neg (by decide), if_neg (by decide), if_neg (by decide), if_neg (by decide), if_neg (by decide), if_neg (by decide), if_pos rfl, ← hsx, ← hsy]
  rw [hd]
  clear hx hy ha hb hn hxl hyl hsx hsy hd
  go_enter Try.func19, Try.ntmps19
  go_wp2_with (first
      | (go_at_call 32; refine HK.out.mono ?_; rintro e w' ⟨rfl, rfl⟩)
      | (go_at_call 24; ((with_reducible refine HX.out.mono ?_); rintro e w' ⟨rfl, rfl⟩))
      | (go_at_call 24; ((with_reducible refine HY.out.mono ?_); rintro e w' ⟨rfl, rfl⟩))
      | (go_at_call 23; ((with_reducible refine HSX.out.mono ?_); rintro e w' ⟨rfl, rfl⟩))
      | (go_at_call 23; ((with_reducible refine HSY.out.mono ?_); rintro e w' ⟨rfl, rfl⟩)))
  go_ret2
  refine rel_post ?_ rfl ?_
  · first | rfl | (rw [Bool.eq_iff_iff]; simp; try omega)
  · exact (Below.refl _ _).alloc (Nat.le_refl _) _

set_option maxRecDepth 100000 in
set_option maxHeartbeats 800000 in
theorem RRel_10 (n : Nat) (hn : Okn n) (a b : Nat) (ha : a < 18446744073709551616) (hb : b < 18446744073709551616) (w : World) :
    Calls Try.prog 19 #[.int .i64 n, .int .i64 10, .int .u64 a, .int .u64 b] w (RelPost w (relR n 10 (a % 2 ^ n) (b % 2 ^ n), 0)) := by
  have HK := hid (Right_yes n hn w)
  have HX := hid (Cut_any n hn a ha w)
  have HY := hid (Cut_any n hn b hb w)
  obtain ⟨x, hx⟩ : ∃ x : Nat, x = a % 2 ^ n := ⟨_, rfl⟩
  obtain ⟨y, hy⟩ : ∃ y : Nat, y = b % 2 ^ n := ⟨_, rfl⟩
  have hxl : x < 2 ^ n := by rw [hx]; exact Nat.mod_lt _ (Nat.two_pow_pos n)
  have hyl : y < 2 ^ n := by rw [hy]; exact Nat.mod_lt _ (Nat.two_pow_pos n)
  have HSX := hid (RSigned_cut n hn x hxl w)
  have HSY := hid (RSigned_cut n hn y hyl w)
  rw [← hx] at HX
  rw [← hy] at HY
  rw [← hx, ← hy]
  obtain ⟨sx, hsx⟩ : ∃ s, s = sg n x := ⟨_, rfl⟩
  obtain ⟨sy, hsy⟩ : ∃ s, s = sg n y := ⟨_, rfl⟩
  rw [← hsx] at HSX
  rw [← hsy] at HSY
  have hd : relR n 10 x y = decide (y ≤ x) := by rw [relR, if_neg (by decide), if_neg (by decide), if_neg (by decide), if_neg (by decide), if_neg (by decide), if_neg (by decide), if_neg (by decide), if_neg (by decide), if_neg (by decide)]
  rw [hd]
  clear hx hy ha hb hn hxl hyl hsx hsy hd
  go_enter Try.func19, Try.ntmps19
  go_wp2_with (first
      | (go_at_call 32; refine HK.out.mono ?_; rintro e w' ⟨rfl, rfl⟩)
      | (go_at_call 24; ((with_reducible refine HX.out.mono ?_); rintro e w' ⟨rfl, rfl⟩))
      | (go_at_call 24; ((with_reducible refine HY.out.mono ?_); rintro e w' ⟨rfl, rfl⟩))
      | (go_at_call 23; ((with_reducible refine HSX.out.mono ?_); rintro e w' ⟨rfl, rfl⟩))
      | (go_at_call 23; ((with_reducible refine HSY.out.mono ?_); rintro e w' ⟨rfl, rfl⟩)))
  go_ret2
  refine rel_post ?_ rfl ?_
  · first | rfl | (rw [Bool.eq_iff_iff]; simp; try omega)
  · exact (Below.refl _ _).alloc (Nat.le_refl _) _

theorem RRel_noBits (b : Int) (hb : Bad b) (op x y : Int) (w : World) :
    Calls Try.prog 19 #[.int .i64 b, .int .i64 op, .int .u64 x, .int .u64 y] w (RelPost w (false, 1)) := by
  have HK := hid (Right_no b hb w)
  clear hb
  go_enter Try.func19, Try.ntmps19
  go_wp2_with (go_at_call 32; refine HK.out.mono ?_; rintro e w' ⟨rfl, rfl⟩)
  go_ret2
  exact rel_post rfl rfl (Below.refl _ _)

theorem RRel_low (n : Nat) (hn : Okn n) (op x y : Int) (hop : op < 1) (w : World) :
    Calls Try.prog 19 #[.int .i64 n, .int .i64 op, .int .u64 x, .int .u64 y] w (RelPost w (false, 1)) := by
  have HK := hid (Right_yes n hn w)
  have h1 : decide (op < 1) = true := decide_eq_true hop
  clear hn hop
  go_enter Try.func19, Try.ntmps19
  go_wp2_with (go_at_call 32; refine HK.out.mono ?_; rintro e w' ⟨rfl, rfl⟩)
  go_ret2
  exact rel_post rfl rfl (Below.refl _ _)

theorem RRel_high (n : Nat) (hn : Okn n) (op x y : Int) (hop : 10 < op) (w : World) :
    Calls Try.prog 19 #[.int .i64 n, .int .i64 op, .int .u64 x, .int .u64 y] w (RelPost w (false, 1)) := by
  have HK := hid (Right_yes n hn w)
  have h1 : decide (op < 1) = false := decide_eq_false (by omega)
  have h2 : decide (10 < op) = true := decide_eq_true hop
  clear hn hop
  go_enter Try.func19, Try.ntmps19
  go_wp2_with (go_at_call 32; refine HK.out.mono ?_; rintro e w' ⟨rfl, rfl⟩)
  go_ret2
  exact rel_post rfl rfl (Below.refl _ _)

/-- Rel of the document: the answer and error, whatever is asked. -/
theorem RRel_any (bits op : Int) (a b : Nat) (ha : a < 18446744073709551616) (hb : b < 18446744073709551616) (w : World) :
    Calls Try.prog 19 #[.int .i64 bits, .int .i64 op, .int .u64 a, .int .u64 b] w (RelPost w (relA bits op a b)) := by
  by_cases hbits : Okn bits.toNat
  · obtain ⟨n, rfl⟩ : ∃ n : Nat, bits = (n : Int) := ⟨bits.toNat, by have := hbits.le; omega⟩
    rw [Int.toNat_natCast] at hbits
    by_cases hop : 1 ≤ op ∧ op ≤ 10
    · obtain ⟨k, rfl⟩ : ∃ k : Nat, op = (k : Int) := ⟨op.toNat, by omega⟩
      rw [relA, if_pos ⟨by simpa using hbits, by omega, by omega⟩, Int.toNat_natCast, Int.toNat_natCast]
      have hk : k = 1 ∨ k = 2 ∨ k = 3 ∨ k = 4 ∨ k = 5 ∨ k = 6 ∨ k = 7 ∨ k = 8 ∨ k = 9 ∨ k = 10 := by omega
      rcases hk with rfl | rfl | rfl | rfl | rfl | rfl | rfl | rfl | rfl | rfl
      · exact RRel_1 n hbits a b ha hb w
      · exact RRel_2 n hbits a b ha hb w
      · exact RRel_3 n hbits a b ha hb w
      · exact RRel_4 n hbits a b ha hb w
      · exact RRel_5 n hbits a b ha hb w
      · exact RRel_6 n hbits a b ha hb w
      · exact RRel_7 n hbits a b ha hb w
      · exact RRel_8 n hbits a b ha hb w
      · exact RRel_9 n hbits a b ha hb w
      · exact RRel_10 n hbits a b ha hb w
    · rw [relA, if_neg (fun h => hop ⟨h.2.1, h.2.2⟩)]
      by_cases h1 : op < 1
      · exact RRel_low n hbits op a b h1 w
      · exact RRel_high n hbits op a b (by omega) w
  · rw [relA, if_neg (fun h => hbits h.1)]
    exact RRel_noBits bits (by unfold Bad; unfold Okn at hbits; omega) op a b w

end Go.Proofs.Yticcmbeikdemmaa
