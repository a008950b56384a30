/-
  RefRel, RefUn: merged (each text says what it holds where it lies in wip). No condition.
-/
import Derived.Test.YtlhakbkdlgejpaaGreatDoorI03
import Derived.Test.YtlhakbkdlgejpaaGreatDoorI07
import Derived.Test.YtlhakbkdlgejpaaGreatDoorI04
set_option linter.unusedSimpArgs false
set_option linter.unusedVariables false
set_option maxRecDepth 100000
namespace Go.Proofs.YtlhakbkdlgejpaaGreatDoor
open Go.RowKit

def RelPost (w : World) (s : Bool × Nat) (e : Ending) (w' : World) : Prop := e = .returned (.tuple #[.bool s.1, .int .i64 (s.2 : Nat)]) ∧ Below w.heap.size w w'

theorem rel_post {w w' : World} {s : Bool × Nat} {v : Bool} {c : Int} (h1 : v = s.1) (h2 : c = (s.2 : Nat)) (hb : Below w.heap.size w w') : RelPost w s (.returned (.tuple #[.bool v, .int .i64 c])) w' := by
  subst h1; subst h2; exact ⟨rfl, hb⟩

set_option maxRecDepth 100000 in
set_option maxHeartbeats 800000 in
theorem RRel_1 (n : Nat) (hn : Okn n) (a b : Nat) (ha : a < 18446744073709551616) (hb : b < 18446744073709551616) (w : World) :
    Calls Tryz.prog 149 #[.int .i64 n, .int .i64 1, .int .u64 a, .int .u64 b] w (RelPost w (relR n 1 (a % 2 ^ n) (b % 2 ^ n), 0)) := by
  have HK := hid (Right_yes n hn w)
  have HX := hid (Cut_any n hn a ha w)
  have HY := hid (Cut_any n hn b hb w)
  obtain ⟨x, hx⟩ : ∃ x : Nat, x = a % 2 ^ n := ⟨_, rfl⟩
  obtain ⟨y, hy⟩ : ∃ y : Nat, y = b % 2 ^ n := ⟨_, rfl⟩
  have hxl : x < 2 ^ n := by rw [hx]; exact Nat.mod_lt _ (Nat.two_pow_pos n)
  have hyl : y < 2 ^ n := by rw [hy]; exact Nat.mod_lt _ (Nat.two_pow_pos n)
  have HSX := hid (RSigned_cut n hn x hxl w)
  have HSY := hid (RSigned_cut n hn y hyl w)
  rw [← hx] at HX
  rw [← hy] at HY
  rw [← hx, ← hy]
  obtain ⟨sx, hsx⟩ : ∃ s, s = sg n x := ⟨_, rfl⟩
  obtain ⟨sy, hsy⟩ : ∃ s, s = sg n y := ⟨_, rfl⟩
  rw [← hsx] at HSX
  rw [← hsy] at HSY
  have hd : relR n 1 x y = decide (x = y) := by rw [relR, if_pos rfl]
  rw [hd]
  clear hx hy ha hb hn hxl hyl hsx hsy hd
  go_enter Tryz.func149, Tryz.ntmps149
  go_wp2_with (first
      | (go_at_call 196; refine HK.out.mono ?_; rintro e w' ⟨rfl, rfl⟩)
      | (go_at_call 81; ((with_reducible refine HX.out.mono ?_); rintro e w' ⟨rfl, rfl⟩))
      | (go_at_call 81; ((with_reducible refine HY.out.mono ?_); rintro e w' ⟨rfl, rfl⟩))
      | (go_at_call 143; ((with_reducible refine HSX.out.mono ?_); rintro e w' ⟨rfl, rfl⟩))
      | (go_at_call 143; ((with_reducible refine HSY.out.mono ?_); rintro e w' ⟨rfl, rfl⟩)))
  go_ret2
  refine rel_post ?_ rfl ?_
  · first | rfl | (rw [Bool.eq_iff_iff]; simp; try omega)
  · exact (Below.refl _ _).alloc (Nat.le_refl _) _

set_option maxRecDepth 100000 in
set_option maxHeartbeats 800000 in
theorem RRel_2 (n : Nat) (hn : Okn n) (a b : Nat) (ha : a < 18446744073709551616) (hb : b < 18446744073709551616) (w : World) :
    Calls Tryz.prog 149 #[.int .i64 n, .int .i64 2, .int .u64 a, .int .u64 b] w (RelPost w (relR n 2 (a % 2 ^ n) (b % 2 ^ n), 0)) := by
  have HK := hid (Right_yes n hn w)
  have HX := hid (Cut_any n hn a ha w)
  have HY := hid (Cut_any n hn b hb w)
  obtain ⟨x, hx⟩ : ∃ x : Nat, x = a % 2 ^ n := ⟨_, rfl⟩
  obtain ⟨y, hy⟩ : ∃ y : Nat, y = b % 2 ^ n := ⟨_, rfl⟩
  have hxl : x < 2 ^ n := by rw [hx]; exact Nat.mod_lt _ (Nat.two_pow_pos n)
  have hyl : y < 2 ^ n := by rw [hy]; exact Nat.mod_lt _ (Nat.two_pow_pos n)
  have HSX := hid (RSigned_cut n hn x hxl w)
  have HSY := hid (RSigned_cut n hn y hyl w)
  rw [← hx] at HX
  rw [← hy] at HY
  rw [← hx, ← hy]
  obtain ⟨sx, hsx⟩ : ∃ s, s = sg n x := ⟨_, rfl⟩
  obtain ⟨sy, hsy⟩ : ∃ s, s = sg n y := ⟨_, rfl⟩
  rw [← hsx] at HSX
  rw [← hsy] at HSY
  have hd : relR n 2 x y = decide (x ≠ y) := by rw [relR, if_neg (by decide), if_pos rfl]
  rw [hd]
  clear hx hy ha hb hn hxl hyl hsx hsy hd
  go_enter Tryz.func149, Tryz.ntmps149
  go_wp2_with (first
      | (go_at_call 196; refine HK.out.mono ?_; rintro e w' ⟨rfl, rfl⟩)
      | (go_at_call 81; ((with_reducible refine HX.out.mono ?_); rintro e w' ⟨rfl, rfl⟩))
      | (go_at_call 81; ((with_reducible refine HY.out.mono ?_); rintro e w' ⟨rfl, rfl⟩))
      | (go_at_call 143; ((with_reducible refine HSX.out.mono ?_); rintro e w' ⟨rfl, rfl⟩))
      | (go_at_call 143; ((with_reducible refine HSY.out.mono ?_); rintro e w' ⟨rfl, rfl⟩)))
  go_ret2
  refine rel_post ?_ rfl ?_
  · first | rfl | (rw [Bool.eq_iff_iff]; simp; try omega)
  · exact (Below.refl _ _).alloc (Nat.le_refl _) _

set_option maxRecDepth 100000 in
set_option maxHeartbeats 800000 in
theorem RRel_3 (n : Nat) (hn : Okn n) (a b : Nat) (ha : a < 18446744073709551616) (hb : b < 18446744073709551616) (w : World) :
    Calls Tryz.prog 149 #[.int .i64 n, .int .i64 3, .int .u64 a, .int .u64 b] w (RelPost w (relR n 3 (a % 2 ^ n) (b % 2 ^ n), 0)) := by
  have HK := hid (Right_yes n hn w)
  have HX := hid (Cut_any n hn a ha w)
  have HY := hid (Cut_any n hn b hb w)
  obtain ⟨x, hx⟩ : ∃ x : Nat, x = a % 2 ^ n := ⟨_, rfl⟩
  obtain ⟨y, hy⟩ : ∃ y : Nat, y = b % 2 ^ n := ⟨_, rfl⟩
  have hxl : x < 2 ^ n := by rw [hx]; exact Nat.mod_lt _ (Nat.two_pow_pos n)
  have hyl : y < 2 ^ n := by rw [hy]; exact Nat.mod_lt _ (Nat.two_pow_pos n)
  have HSX := hid (RSigned_cut n hn x hxl w)
  have HSY := hid (RSigned_cut n hn y hyl w)
  rw [← hx] at HX
  rw [← hy] at HY
  rw [← hx, ← hy]
  obtain ⟨sx, hsx⟩ : ∃ s, s = sg n x := ⟨_, rfl⟩
  obtain ⟨sy, hsy⟩ : ∃ s, s = sg n y := ⟨_, rfl⟩
  rw [← hsx] at HSX
  rw [← hsy] at HSY
  have hd : relR n 3 x y = decide (sx < sy) := by rw [relR, if_neg (by decide), if_neg (by decide), if_pos rfl, ← hsx, ← hsy]
  rw [hd]
  clear hx hy ha hb hn hxl hyl hsx hsy hd
  go_enter Tryz.func149, Tryz.ntmps149
  go_wp2_with (first
      | (go_at_call 196; refine HK.out.mono ?_; rintro e w' ⟨rfl, rfl⟩)
      | (go_at_call 81; ((with_reducible refine HX.out.mono ?_); rintro e w' ⟨rfl, rfl⟩))
      | (go_at_call 81; ((with_reducible refine HY.out.mono ?_); rintro e w' ⟨rfl, rfl⟩))
      | (go_at_call 143; ((with_reducible refine HSX.out.mono ?_); rintro e w' ⟨rfl, rfl⟩))
      | (go_at_call 143; ((with_reducible refine HSY.out.mono ?_); rintro e w' ⟨rfl, rfl⟩)))
  go_ret2
  refine rel_post ?_ rfl ?_
  · first | rfl | (rw [Bool.eq_iff_iff]; simp; try omega)
  · exact (Below.refl _ _).alloc (Nat.le_refl _) _

set_option maxRecDepth 100000 in
set_option maxHeartbeats 800000 in
theorem RRel_4 (n : Nat) (hn : Okn n) (a b : Nat) (ha : a < 18446744073709551616) (hb : b < 18446744073709551616) (w : World) :
    Calls Tryz.prog 149 #[.int .i64 n, .int .i64 4, .int .u64 a, .int .u64 b] w (RelPost w (relR n 4 (a % 2 ^ n) (b % 2 ^ n), 0)) := by
  have HK := hid (Right_yes n hn w)
  have HX := hid (Cut_any n hn a ha w)
  have HY := hid (Cut_any n hn b hb w)
  obtain ⟨x, hx⟩ : ∃ x : Nat, x = a % 2 ^ n := ⟨_, rfl⟩
  obtain ⟨y, hy⟩ : ∃ y : Nat, y = b % 2 ^ n := ⟨_, rfl⟩
  have hxl : x < 2 ^ n := by rw [hx]; exact Nat.mod_lt _ (Nat.two_pow_pos n)
  have hyl : y < 2 ^ n := by rw [hy]; exact Nat.mod_lt _ (Nat.two_pow_pos n)
  have HSX := hid (RSigned_cut n hn x hxl w)
  have HSY := hid (RSigned_cut n hn y hyl w)
  rw [← hx] at HX
  rw [← hy] at HY
  rw [← hx, ← hy]
  obtain ⟨sx, hsx⟩ : ∃ s, s = sg n x := ⟨_, rfl⟩
  obtain ⟨sy, hsy⟩ : ∃ s, s = sg n y := ⟨_, rfl⟩
  rw [← hsx] at HSX
  rw [← hsy] at HSY
  have hd : relR n 4 x y = decide (x < y) := by rw [relR, if_neg (by decide), if_neg (by decide), if_neg (by decide), if_pos rfl]
  rw [hd]
  clear hx hy ha hb hn hxl hyl hsx hsy hd
  go_enter Tryz.func149, Tryz.ntmps149
  go_wp2_with (first
      | (go_at_call 196; refine HK.out.mono ?_; rintro e w' ⟨rfl, rfl⟩)
      | (go_at_call 81; ((with_reducible refine HX.out.mono ?_); rintro e w' ⟨rfl, rfl⟩))
      | (go_at_call 81; ((with_reducible refine HY.out.mono ?_); rintro e w' ⟨rfl, rfl⟩))
      | (go_at_call 143; ((with_reducible refine HSX.out.mono ?_); rintro e w' ⟨rfl, rfl⟩))
      | (go_at_call 143; ((with_reducible refine HSY.out.mono ?_); rintro e w' ⟨rfl, rfl⟩)))
  go_ret2
  refine rel_post ?_ rfl ?_
  · first | rfl | (rw [Bool.eq_iff_iff]; simp; try omega)
  · exact (Below.refl _ _).alloc (Nat.le_refl _) _

set_option maxRecDepth 100000 in
set_option maxHeartbeats 800000 in
theorem RRel_5 (n : Nat) (hn : Okn n) (a b : Nat) (ha : a < 18446744073709551616) (hb : b < 18446744073709551616) (w : World) :
    Calls Tryz.prog 149 #[.int .i64 n, .int .i64 5, .int .u64 a, .int .u64 b] w (RelPost w (relR n 5 (a % 2 ^ n) (b % 2 ^ n), 0)) := by
  have HK := hid (Right_yes n hn w)
  have HX := hid (Cut_any n hn a ha w)
  have HY := hid (Cut_any n hn b hb w)
  obtain ⟨x, hx⟩ : ∃ x : Nat, x = a % 2 ^ n := ⟨_, rfl⟩
  obtain ⟨y, hy⟩ : ∃ y : Nat, y = b % 2 ^ n := ⟨_, rfl⟩
  have hxl : x < 2 ^ n := by rw [hx]; exact Nat.mod_lt _ (Nat.two_pow_pos n)
  have hyl : y < 2 ^ n := by rw [hy]; exact Nat.mod_lt _ (Nat.two_pow_pos n)
  have HSX := hid (RSigned_cut n hn x hxl w)
  have HSY := hid (RSigned_cut n hn y hyl w)
  rw [← hx] at HX
  rw [← hy] at HY
  rw [← hx, ← hy]
  obtain ⟨sx, hsx⟩ : ∃ s, s = sg n x := ⟨_, rfl⟩
  obtain ⟨sy, hsy⟩ : ∃ s, s = sg n y := ⟨_, rfl⟩
  rw [← hsx] at HSX
  rw [← hsy] at HSY
  have hd : relR n 5 x y = decide (sy < sx) := by rw [relR, if_neg (by decide), if_neg (by decide), if_neg (by decide), if_neg (by decide), if_pos rfl, ← hsx, ← hsy]
  rw [hd]
  clear hx hy ha hb hn hxl hyl hsx hsy hd
  go_enter Tryz.func149, Tryz.ntmps149
  go_wp2_with (first
      | (go_at_call 196; refine HK.out.mono ?_; rintro e w' ⟨rfl, rfl⟩)
      | (go_at_call 81; ((with_reducible refine HX.out.mono ?_); rintro e w' ⟨rfl, rfl⟩))
      | (go_at_call 81; ((with_reducible refine HY.out.mono ?_); rintro e w' ⟨rfl, rfl⟩))
      | (go_at_call 143; ((with_reducible refine HSX.out.mono ?_); rintro e w' ⟨rfl, rfl⟩))
      | (go_at_call 143; ((with_reducible refine HSY.out.mono ?_); rintro e w' ⟨rfl, rfl⟩)))
  go_ret2
  refine rel_post ?_ rfl ?_
  · first | rfl | (rw [Bool.eq_iff_iff]; simp; try omega)
  · exact (Below.refl _ _).alloc (Nat.le_refl _) _

set_option maxRecDepth 100000 in
set_option maxHeartbeats 800000 in
theorem RRel_6 (n : Nat) (hn : Okn n) (a b : Nat) (ha : a < 18446744073709551616) (hb : b < 18446744073709551616) (w : World) :
    Calls Tryz.prog 149 #[.int .i64 n, .int .i64 6, .int .u64 a, .int .u64 b] w (RelPost w (relR n 6 (a % 2 ^ n) (b % 2 ^ n), 0)) := by
  have HK := hid (Right_yes n hn w)
  have HX := hid (Cut_any n hn a ha w)
  have HY := hid (Cut_any n hn b hb w)
  obtain ⟨x, hx⟩ : ∃ x : Nat, x = a % 2 ^ n := ⟨_, rfl⟩
  obtain ⟨y, hy⟩ : ∃ y : Nat, y = b % 2 ^ n := ⟨_, rfl⟩
  have hxl : x < 2 ^ n := by rw [hx]; exact Nat.mod_lt _ (Nat.two_pow_pos n)
  have hyl : y < 2 ^ n := by rw [hy]; exact Nat.mod_lt _ (Nat.two_pow_pos n)
  have HSX := hid (RSigned_cut n hn x hxl w)
  have HSY := hid (RSigned_cut n hn y hyl w)
  rw [← hx] at HX
  rw [← hy] at HY
  rw [← hx, ← hy]
  obtain ⟨sx, hsx⟩ : ∃ s, s = sg n x := ⟨_, rfl⟩
  obtain ⟨sy, hsy⟩ : ∃ s, s = sg n y := ⟨_, rfl⟩
  rw [← hsx] at HSX
  rw [← hsy] at HSY
  have hd : relR n 6 x y = decide (y < x) := by rw [relR, if_neg (by decide), if_neg (by decide), if_neg (by decide), if_neg (by decide), if_neg (by decide), if_pos rfl]
  rw [hd]
  clear hx hy ha hb hn hxl hyl hsx hsy hd
  go_enter Tryz.func149, Tryz.ntmps149
  go_wp2_with (first
      | (go_at_call 196; refine HK.out.mono ?_; rintro e w' ⟨rfl, rfl⟩)
      | (go_at_call 81; ((with_reducible refine HX.out.mono ?_); rintro e w' ⟨rfl, rfl⟩))
      | (go_at_call 81; ((with_reducible refine HY.out.mono ?_); rintro e w' ⟨rfl, rfl⟩))
      | (go_at_call 143; ((with_reducible refine HSX.out.mono ?_); rintro e w' ⟨rfl, rfl⟩))
      | (go_at_call 143; ((with_reducible refine HSY.out.mono ?_); rintro e w' ⟨rfl, rfl⟩)))
  go_ret2
  refine rel_post ?_ rfl ?_
  · first | rfl | (rw [Bool.eq_iff_iff]; simp; try omega)
  · exact (Below.refl _ _).alloc (Nat.le_refl _) _

set_option maxRecDepth 100000 in
set_option maxHeartbeats 800000 in
theorem RRel_7 (n : Nat) (hn : Okn n) (a b : Nat) (ha : a < 18446744073709551616) (hb : b < 18446744073709551616) (w : World) :
    Calls Tryz.prog 149 #[.int .i64 n, .int .i64 7, .int .u64 a, .int .u64 b] w (RelPost w (relR n 7 (a % 2 ^ n) (b % 2 ^ n), 0)) := by
  have HK := hid (Right_yes n hn w)
  have HX := hid (Cut_any n hn a ha w)
  have HY := hid (Cut_any n hn b hb w)
  obtain ⟨x, hx⟩ : ∃ x : Nat, x = a % 2 ^ n := ⟨_, rfl⟩
  obtain ⟨y, hy⟩ : ∃ y : Nat, y = b % 2 ^ n := ⟨_, rfl⟩
  have hxl : x < 2 ^ n := by rw [hx]; exact Nat.mod_lt _ (Nat.two_pow_pos n)
  have hyl : y < 2 ^ n := by rw [hy]; exact Nat.mod_lt _ (Nat.two_pow_pos n)
  have HSX := hid (RSigned_cut n hn x hxl w)
  have HSY := hid (RSigned_cut n hn y hyl w)
  rw [← hx] at HX
  rw [← hy] at HY
  rw [← hx, ← hy]
  obtain ⟨sx, hsx⟩ : ∃ s, s = sg n x := ⟨_, rfl⟩
  obtain ⟨sy, hsy⟩ : ∃ s, s = sg n y := ⟨_, rfl⟩
  rw [← hsx] at HSX
  rw [← hsy] at HSY
  have hd : relR n 7 x y = decide (sx ≤ sy) := by rw [relR, if_neg (by decide), if_neg (by decide), if_neg (by decide), if_neg (by decide), if_neg (by decide), if_neg (by decide), if_pos rfl, ← hsx, ← hsy]
  rw [hd]
  clear hx hy ha hb hn hxl hyl hsx hsy hd
  go_enter Tryz.func149, Tryz.ntmps149
  go_wp2_with (first
      | (go_at_call 196; refine HK.out.mono ?_; rintro e w' ⟨rfl, rfl⟩)
      | (go_at_call 81; ((with_reducible refine HX.out.mono ?_); rintro e w' ⟨rfl, rfl⟩))
      | (go_at_call 81; ((with_reducible refine HY.out.mono ?_); rintro e w' ⟨rfl, rfl⟩))
      | (go_at_call 143; ((with_reducible refine HSX.out.mono ?_); rintro e w' ⟨rfl, rfl⟩))
      | (go_at_call 143; ((with_reducible refine HSY.out.mono ?_); rintro e w' ⟨rfl, rfl⟩)))
  go_ret2
  refine rel_post ?_ rfl ?_
  · first | rfl | (rw [Bool.eq_iff_iff]; simp; try omega)
  · exact (Below.refl _ _).alloc (Nat.le_refl _) _

set_option maxRecDepth 100000 in
set_option maxHeartbeats 800000 in
theorem RRel_8 (n : Nat) (hn : Okn n) (a b : Nat) (ha : a < 18446744073709551616) (hb : b < 18446744073709551616) (w : World) :
    Calls Tryz.prog 149 #[.int .i64 n, .int .i64 8, .int .u64 a, .int .u64 b] w (RelPost w (relR n 8 (a % 2 ^ n) (b % 2 ^ n), 0)) := by
  have HK := hid (Right_yes n hn w)
  have HX := hid (Cut_any n hn a ha w)
  have HY := hid (Cut_any n hn b hb w)
  obtain ⟨x, hx⟩ : ∃ x : Nat, x = a % 2 ^ n := ⟨_, rfl⟩
  obtain ⟨y, hy⟩ : ∃ y : Nat, y = b % 2 ^ n := ⟨_, rfl⟩
  have hxl : x < 2 ^ n := by rw [hx]; exact Nat.mod_lt _ (Nat.two_pow_pos n)
  have hyl : y < 2 ^ n := by rw [hy]; exact Nat.mod_lt _ (Nat.two_pow_pos n)
  have HSX := hid (RSigned_cut n hn x hxl w)
  have HSY := hid (RSigned_cut n hn y hyl w)
  rw [← hx] at HX
  rw [← hy] at HY
  rw [← hx, ← hy]
  obtain ⟨sx, hsx⟩ : ∃ s, s = sg n x := ⟨_, rfl⟩
  obtain ⟨sy, hsy⟩ : ∃ s, s = sg n y := ⟨_, rfl⟩
  rw [← hsx] at HSX
  rw [← hsy] at HSY
  have hd : relR n 8 x y = decide (x ≤ y) := by rw [relR, if_neg (by decide), if_neg (by decide), if_neg (by decide), if_neg (by decide), if_neg (by decide), if_neg (by decide), if_neg (by decide), if_pos rfl]
  rw [hd]
  clear hx hy ha hb hn hxl hyl hsx hsy hd
  go_enter Tryz.func149, Tryz.ntmps149
  go_wp2_with (first
      | (go_at_call 196; refine HK.out.mono ?_; rintro e w' ⟨rfl, rfl⟩)
      | (go_at_call 81; ((with_reducible refine HX.out.mono ?_); rintro e w' ⟨rfl, rfl⟩))
      | (go_at_call 81; ((with_reducible refine HY.out.mono ?_); rintro e w' ⟨rfl, rfl⟩))
      | (go_at_call 143; ((with_reducible refine HSX.out.mono ?_); rintro e w' ⟨rfl, rfl⟩))
      | (go_at_call 143; ((with_reducible refine HSY.out.mono ?_); rintro e w' ⟨rfl, rfl⟩)))
  go_ret2
  refine rel_post ?_ rfl ?_
  · first | rfl | (rw [Bool.eq_iff_iff]; simp; try omega)
  · exact (Below.refl _ _).alloc (Nat.le_refl _) _

set_option maxRecDepth 100000 in
set_option maxHeartbeats 800000 in
theorem RRel_9 (n : Nat) (hn : Okn n) (a b : Nat) (ha : a < 18446744073709551616) (hb : b < 18446744073709551616) (w : World) :
    Calls Tryz.prog 149 #[.int .i64 n, .int .i64 9, .int .u64 a, .int .u64 b] w (RelPost w (relR n 9 (a % 2 ^ n) (b % 2 ^ n), 0)) := by
  have HK := hid (Right_yes n hn w)
  have HX := hid (Cut_any n hn a ha w)
  have HY := hid (Cut_any n hn b hb w)
  obtain ⟨x, hx⟩ : ∃ x : Nat, x = a % 2 ^ n := ⟨_, rfl⟩
  obtain ⟨y, hy⟩ : ∃ y : Nat, y = b % 2 ^ n := ⟨_, rfl⟩
  have hxl : x < 2 ^ n := by rw [hx]; exact Nat.mod_lt _ (Nat.two_pow_pos n)
  have hyl : y < 2 ^ n := by rw [hy]; exact Nat.mod_lt _ (Nat.two_pow_pos n)
  have HSX := hid (RSigned_cut n hn x hxl w)
  have HSY := hid (RSigned_cut n hn y hyl w)
  rw [← hx] at HX
  rw [← hy] at HY
  rw [← hx, ← hy]
  obtain ⟨sx, hsx⟩ : ∃ s, s = sg n x := ⟨_, rfl⟩
  obtain ⟨sy, hsy⟩ : ∃ s, s = sg n y := ⟨_, rfl⟩
  rw [← hsx] at HSX
  rw [← hsy] at HSY
  have hd : relR n 9 x y = decide (sy ≤ sx) := by rw [relR, if_neg (by decide), if_neg (by decide), if_neg (by decide), if_neg (by decide), if_neg (by decide), if_neg (by decide), if_neg (by decide), if_neg (by decide), if_pos rfl, ← hsx, ← hsy]
  rw [hd]
  clear hx hy ha hb hn hxl hyl hsx hsy hd
  go_enter Tryz.func149, Tryz.ntmps149
  go_wp2_with (first
      | (go_at_call 196; refine HK.out.mono ?_; rintro e w' ⟨rfl, rfl⟩)
      | (go_at_call 81; ((with_reducible refine HX.out.mono ?_); rintro e w' ⟨rfl, rfl⟩))
      | (go_at_call 81; ((with_reducible refine HY.out.mono ?_); rintro e w' ⟨rfl, rfl⟩))
      | (go_at_call 143; ((with_reducible refine HSX.out.mono ?_); rintro e w' ⟨rfl, rfl⟩))
      | (go_at_call 143; ((with_reducible refine HSY.out.mono ?_); rintro e w' ⟨rfl, rfl⟩)))
  go_ret2
  refine rel_post ?_ rfl ?_
  · first | rfl | (rw [Bool.eq_iff_iff]; simp; try omega)
  · exact (Below.refl _ _).alloc (Nat.le_refl _) _

set_option maxRecDepth 100000 in
set_option maxHeartbeats 800000 in
theorem RRel_10 (n : Nat) (hn : Okn n) (a b : Nat) (ha : a < 18446744073709551616) (hb : b < 18446744073709551616) (w : World) :
    Calls Tryz.prog 149 #[.int .i64 n, .int .i64 10, .int .u64 a, .int .u64 b] w (RelPost w (relR n 10 (a % 2 ^ n) (b % 2 ^ n), 0)) := by
  have HK := hid (Right_yes n hn w)
  have HX := hid (Cut_any n hn a ha w)
  have HY := hid (Cut_any n hn b hb w)
  obtain ⟨x, hx⟩ : ∃ x : Nat, x = a % 2 ^ n := ⟨_, rfl⟩
  obtain ⟨y, hy⟩ : ∃ y : Nat, y = b % 2 ^ n := ⟨_, rfl⟩
  have hxl : x < 2 ^ n := by rw [hx]; exact Nat.mod_lt _ (Nat.two_pow_pos n)
  have hyl : y < 2 ^ n := by rw [hy]; exact Nat.mod_lt _ (Nat.two_pow_pos n)
  have HSX := hid (RSigned_cut n hn x hxl w)
  have HSY := hid (RSigned_cut n hn y hyl w)
  rw [← hx] at HX
  rw [← hy] at HY
  rw [← hx, ← hy]
  obtain ⟨sx, hsx⟩ : ∃ s, s = sg n x := ⟨_, rfl⟩
  obtain ⟨sy, hsy⟩ : ∃ s, s = sg n y := ⟨_, rfl⟩
  rw [← hsx] at HSX
  rw [← hsy] at HSY
  have hd : relR n 10 x y = decide (y ≤ x) := by rw [relR, if_neg (by decide), if_neg (by decide), if_neg (by decide), if_neg (by decide), if_neg (by decide), if_neg (by decide), if_neg (by decide), if_neg (by decide), if_neg (by decide)]
  rw [hd]
  clear hx hy ha hb hn hxl hyl hsx hsy hd
  go_enter Tryz.func149, Tryz.ntmps149
  go_wp2_with (first
      | (go_at_call 196; refine HK.out.mono ?_; rintro e w' ⟨rfl, rfl⟩)
      | (go_at_call 81; ((with_reducible refine HX.out.mono ?_); rintro e w' ⟨rfl, rfl⟩))
      | (go_at_call 81; ((with_reducible refine HY.out.mono ?_); rintro e w' ⟨rfl, rfl⟩))
      | (go_at_call 143; ((with_reducible refine HSX.out.mono ?_); rintro e w' ⟨rfl, rfl⟩))
      | (go_at_call 143; ((with_reducible refine HSY.out.mono ?_); rintro e w' ⟨rfl, rfl⟩)))
  go_ret2
  refine rel_post ?_ rfl ?_
  · first | rfl | (rw [Bool.eq_iff_iff]; simp; try omega)
  · exact (Below.refl _ _).alloc (Nat.le_refl _) _

theorem RRel_noBits (b : Int) (hb : Bad b) (op x y : Int) (w : World) :
    Calls Tryz.prog 149 #[.int .i64 b, .int .i64 op, .int .u64 x, .int .u64 y] w (RelPost w (false, 1)) := by
  have HK := hid (Right_no b hb w)
  clear hb
  go_enter Tryz.func149, Tryz.ntmps149
  go_wp2_with (go_at_call 196; refine HK.out.mono ?_; rintro e w' ⟨rfl, rfl⟩)
  go_ret2
  exact rel_post rfl rfl (Below.refl _ _)

theorem RRel_low (n : Nat) (hn : Okn n) (op x y : Int) (hop : op < 1) (w : World) :
    Calls Tryz.prog 149 #[.int .i64 n, .int .i64 op, .int .u64 x, .int .u64 y] w (RelPost w (false, 1)) := by
  have HK := hid (Right_yes n hn w)
  have h1 : decide (op < 1) = true := decide_eq_true hop
  clear hn hop
  go_enter Tryz.func149, Tryz.ntmps149
  go_wp2_with (go_at_call 196; refine HK.out.mono ?_; rintro e w' ⟨rfl, rfl⟩)
  go_ret2
  exact rel_post rfl rfl (Below.refl _ _)

theorem RRel_high (n : Nat) (hn : Okn n) (op x y : Int) (hop : 10 < op) (w : World) :
    Calls Tryz.prog 149 #[.int .i64 n, .int .i64 op, .int .u64 x, .int .u64 y] w (RelPost w (false, 1)) := by
  have HK := hid (Right_yes n hn w)
  have h1 : decide (op < 1) = false := decide_eq_false (by omega)
  have h2 : decide (10 < op) = true := decide_eq_true hop
  clear hn hop
  go_enter Tryz.func149, Tryz.ntmps149
  go_wp2_with (go_at_call 196; refine HK.out.mono ?_; rintro e w' ⟨rfl, rfl⟩)
  go_ret2
  exact rel_post rfl rfl (Below.refl _ _)

/-- Rel of the document: the answer and error, whatever is asked. -/
theorem RRel_any (bits op : Int) (a b : Nat) (ha : a < 18446744073709551616) (hb : b < 18446744073709551616) (w : World) :
    Calls Tryz.prog 149 #[.int .i64 bits, .int .i64 op, .int .u64 a, .int .u64 b] w (RelPost w (relA bits op a b)) := by
  by_cases hbits : Okn bits.toNat
  · obtain ⟨n, rfl⟩ : ∃ n : Nat, bits = (n : Int) := ⟨bits.toNat, by have := hbits.le; omega⟩
    rw [Int.toNat_natCast] at hbits
    by_cases hop : 1 ≤ op ∧ op ≤ 10
    · obtain ⟨k, rfl⟩ : ∃ k : Nat, op = (k : Int) := ⟨op.toNat, by omega⟩
      rw [relA, if_pos ⟨by simpa using hbits, by omega, by omega⟩, Int.toNat_natCast, Int.toNat_natCast]
      have hk : k = 1 ∨ k = 2 ∨ k = 3 ∨ k = 4 ∨ k = 5 ∨ k = 6 ∨ k = 7 ∨ k = 8 ∨ k = 9 ∨ k = 10 := by omega
      rcases hk with rfl | rfl | rfl | rfl | rfl | rfl | rfl | rfl | rfl | rfl
      · exact RRel_1 n hbits a b ha hb w
      · exact RRel_2 n hbits a b ha hb w
      · exact RRel_3 n hbits a b ha hb w
      · exact RRel_4 n hbits a b ha hb w
      · exact RRel_5 n hbits a b ha hb w
      · exact RRel_6 n hbits a b ha hb w
      · exact RRel_7 n hbits a b ha hb w
      · exact RRel_8 n hbits a b ha hb w
      · exact RRel_9 n hbits a b ha hb w
      · exact RRel_10 n hbits a b ha hb w
    · rw [relA, if_neg (fun h => hop ⟨h.2.1, h.2.2⟩)]
      by_cases h1 : op < 1
      · exact RRel_low n hbits op a b h1 w
      · exact RRel_high n hbits op a b (by omega) w
  · rw [relA, if_neg (fun h => hbits h.1)]
    exact RRel_noBits bits (by unfold Bad; unfold Okn at hbits; omega) op a b w

end Go.Proofs.YtlhakbkdlgejpaaGreatDoor
namespace Go.Proofs.YtlhakbkdlgejpaaGreatDoor
open Go.RowKit

theorem clz_bit (j x : Nat) : (btN x j = 1 → clzR (j + 1) x = 0) ∧ (btN x j = 0 → clzR (j + 1) x = 1 + clzR j x) := by
  have h := btN_bit x j
  rw [clzR, ← h]
  constructor
  · intro e; simp [e]
  · intro e; simp [e]

theorem ctz_bit (m x i : Nat) : (btN x i = 1 → ctzR (m + 1) (x / 2 ^ i) = 0) ∧ (btN x i = 0 → ctzR (m + 1) (x / 2 ^ i) = 1 + ctzR m (x / 2 ^ (i + 1))) := by
  unfold btN
  rw [ctzR, Nat.pow_succ, ← Nat.div_div_eq_div_mul]
  constructor
  · intro e; simp [e]
  · intro e; simp [e]

theorem pop_bit (x i : Nat) : pop (x / 2 ^ i) = btN x i + pop (x / 2 ^ (i + 1)) := by
  rw [pop_any, Nat.pow_succ, ← Nat.div_div_eq_div_mul]
  rfl

theorem own_cap2 {w : World} {base n cap g : Nat} {xs : List Value} (h : w.ownsRow base 22 1 (.slice (some ⟨g, 0, none⟩) n cap) n xs) : n ≤ cap := by
  rcases h.2 with ⟨h, _⟩ | ⟨g', cap', cur, h, _, _, hnc, _⟩
  · simp at h
  · injection h with h1 h2 h3
    omega

set_option maxRecDepth 100000 in
set_option maxHeartbeats 1600000 in
theorem RUn_1 (n : Nat) (hn : Okn n) (a : Nat) (ha : a < 18446744073709551616) (w : World) :
    Calls Tryz.prog 150 #[.int .i64 n, .int .i64 1, .int .u64 a] w (DivPost w (unR n 1 (a % 2 ^ n), 0)) := by
  obtain ⟨h1, h2, h3, h4⟩ := pow_lt64 hn
  have hn8 := hn.le
  have HK := hid (Right_yes n hn w)
  have HX := hid (Cut_any n hn a ha w)
  obtain ⟨x, hx⟩ : ∃ x : Nat, x = a % 2 ^ n := ⟨_, rfl⟩
  have hxl : x < 2 ^ n := by rw [hx]; exact Nat.mod_lt _ (Nat.two_pow_pos n)
  have HL := hid (list_any n hn8.2 x (by omega) w)
  rw [← hx] at HX
  rw [← hx]
  have hn64 : n ≤ 64 := hn8.2
  have hn1 : 1 ≤ n := by omega
  clear hx ha
  have hs : unR n 1 x = clzR n x := by rw [unR, if_pos rfl]
  rw [hs]
  clear h1 h2 h3 h4 hn hn8 hs hxl
  go_enter Tryz.func150, Tryz.ntmps150
  repeat' (first
    | (with_reducible refine wp_exit ?_; repeat (first | with_reducible refine ex_norm ?_ | with_reducible refine ex_then ?_ | with_reducible refine ex_here ?_ | with_reducible refine ex_pass rfl ?_))
    | (go_big_may; first
      | (go_at_call 196; refine HK.out.mono ?_; rintro e w' ⟨rfl, rfl⟩)
      | (go_at_call 81; ((with_reducible refine HX.out.mono ?_); rintro e w' ⟨rfl, rfl⟩))
      | (go_at_call 228; refine HL.out.mono ?_; rintro e w1 ⟨v1, rfl, hown1, hB1⟩; have K1 := hid hown1; have K2 := hid hB1; clear hown1 hB1; obtain ⟨g, cap, rfl⟩ := owned_at K1.out hn1; have hcap := own_cap2 K1.out))
    | go_values | go_skip | go_guarded | go_step | go_upon | go_back | dsimp only)
  go_loop [10, 11] (fun vk vi => ∃ m : Nat, m ≤ n ∧ vi = .int .i64 ((m : Int) - 1) ∧ vk = .int .u64 ((n - m : Nat) : Int) ∧ Hid (clzR n x = (n - m) + clzR m x)) (fun _ vi => (intOf vi + 1).toNat)
  case atStart => exact ⟨n, Nat.le_refl _, rfl, by rw [Nat.sub_self]; rfl, hid (by omega)⟩
  case round =>
    obtain ⟨m, hm, rfl, rfl, H⟩ := hrel
    by_cases h0 : m = 0
    · subst h0
      have e : ((n - 0 : Nat) : Int) = (clzR n x : Nat) := by have := H.out; rw [this]; rfl
      have HE := hid e
      obtain ⟨z, hz⟩ : ∃ z : Int, z = ((n - 0 : Nat) : Int) := ⟨_, rfl⟩
      rw [← hz] at HE ⊢
      clear H e hz
      go_wp2
      go_ret2
      exact div_post HE.out rfl K2.out
    · obtain ⟨j, rfl⟩ : ∃ j, m = j + 1 := ⟨m - 1, by omega⟩
      have ek : ((j + 1 : Nat) : Int) - 1 = (j : Int) := by omega
      have hc : w1.cell? ⟨g, j, none⟩ = some (.int .u64 (btN x j : Nat)) := by
        rw [K1.out.cellAt j (by omega), fc_get (by omega)]
      have hb : btN x j = 0 ∨ btN x j = 1 := by have := btN_le x j; omega
      obtain ⟨c1, c2⟩ := clz_bit j x
      rw [ek]
      rcases hb with hb | hb
      · rw [hb] at hc
        have hw : IntKind.u64.wrap (((n - (j + 1) : Nat) : Int) + 1) = ((n - j : Nat) : Int) := by rw [IntKind.wrap_u64]; omega
        have H2 := hid (show clzR n x = (n - j) + clzR j x by have := H.out; rw [c2 hb] at this; omega)
        obtain ⟨p, hp⟩ : ∃ p : Nat, p = n - (j + 1) := ⟨_, rfl⟩
        obtain ⟨q, hq⟩ : ∃ q : Nat, q = n - j := ⟨_, rfl⟩
        rw [← hp, ← hq] at hw
        rw [← hp]
        rw [← hq] at H2
        have HQ := hid hq
        simp only [Int.natCast_zero] at hc
        clear H c1 c2 hb hp hq h0 ek
        go_wp2
        go_round
        case rel => exact ⟨j, by omega, rfl, by rw [HQ.out], by rw [← HQ.out]; exact H2⟩
        case measure => simp [intOf]
      · rw [hb] at hc
        have e : ((n - (j + 1) : Nat) : Int) = (clzR n x : Nat) := by have := H.out; rw [c1 hb] at this; rw [this]; rfl
        have HE := hid e
        obtain ⟨z, hz⟩ : ∃ z : Int, z = ((n - (j + 1) : Nat) : Int) := ⟨_, rfl⟩
        rw [← hz] at HE ⊢
        simp only [Int.natCast_one] at hc
        clear H c1 c2 hb e hz h0 ek
        go_wp2
        go_ret2
        exact div_post HE.out rfl K2.out

set_option maxRecDepth 100000 in
set_option maxHeartbeats 1600000 in
theorem RUn_2 (n : Nat) (hn : Okn n) (a : Nat) (ha : a < 18446744073709551616) (w : World) :
    Calls Tryz.prog 150 #[.int .i64 n, .int .i64 2, .int .u64 a] w (DivPost w (unR n 2 (a % 2 ^ n), 0)) := by
  obtain ⟨h1, h2, h3, h4⟩ := pow_lt64 hn
  have hn8 := hn.le
  have HK := hid (Right_yes n hn w)
  have HX := hid (Cut_any n hn a ha w)
  obtain ⟨x, hx⟩ : ∃ x : Nat, x = a % 2 ^ n := ⟨_, rfl⟩
  have hxl : x < 2 ^ n := by rw [hx]; exact Nat.mod_lt _ (Nat.two_pow_pos n)
  have HL := hid (list_any n hn8.2 x (by omega) w)
  rw [← hx] at HX
  rw [← hx]
  have hn64 : n ≤ 64 := hn8.2
  have hn1 : 1 ≤ n := by omega
  clear hx ha
  have hs : unR n 2 x = ctzR n x := by rw [unR, if_neg (by decide), if_pos rfl]
  rw [hs]
  clear h1 h2 h3 h4 hn hn8 hs hxl
  go_enter Tryz.func150, Tryz.ntmps150
  repeat' (first
    | (with_reducible refine wp_exit ?_; repeat (first | with_reducible refine ex_norm ?_ | with_reducible refine ex_then ?_ | with_reducible refine ex_here ?_ | with_reducible refine ex_pass rfl ?_))
    | (go_big_may; first
      | (go_at_call 196; refine HK.out.mono ?_; rintro e w' ⟨rfl, rfl⟩)
      | (go_at_call 81; ((with_reducible refine HX.out.mono ?_); rintro e w' ⟨rfl, rfl⟩))
      | (go_at_call 228; refine HL.out.mono ?_; rintro e w1 ⟨v1, rfl, hown1, hB1⟩; have K1 := hid hown1; have K2 := hid hB1; clear hown1 hB1; obtain ⟨g, cap, rfl⟩ := owned_at K1.out hn1; have hcap := own_cap2 K1.out))
    | go_values | go_skip | go_guarded | go_step | go_upon | go_back | dsimp only)
  go_loop [10, 12] (fun vk vi => ∃ i : Nat, i ≤ n ∧ vi = .int .i64 i ∧ vk = .int .u64 (i : Int) ∧ Hid (ctzR n x = i + ctzR (n - i) (x / 2 ^ i))) (fun _ vi => n - (intOf vi).toNat)
  case atStart => exact ⟨0, Nat.zero_le _, rfl, rfl, hid (by simp)⟩
  case round =>
    obtain ⟨i, hi, rfl, rfl, H⟩ := hrel
    by_cases hlt : i < n
    · have hc : w1.cell? ⟨g, i, none⟩ = some (.int .u64 (btN x i : Nat)) := by
        rw [K1.out.cellAt i (by omega), fc_get (by omega)]
      have hb : btN x i = 0 ∨ btN x i = 1 := by have := btN_le x i; omega
      obtain ⟨c1, c2⟩ := ctz_bit (n - (i + 1)) x i
      have em : n - (i + 1) + 1 = n - i := by omega
      rw [em] at c1 c2
      rcases hb with hb | hb
      · rw [hb] at hc
        have hw : IntKind.u64.wrap ((i : Int) + 1) = ((i + 1 : Nat) : Int) := by rw [IntKind.wrap_u64]; omega
        have H2 := hid (show ctzR n x = (i + 1) + ctzR (n - (i + 1)) (x / 2 ^ (i + 1)) by have := H.out; rw [c2 hb] at this; omega)
        obtain ⟨q, hq⟩ : ∃ q : Nat, q = i + 1 := ⟨_, rfl⟩
        rw [← hq] at hw
        have HQ := hid hq
        simp only [Int.natCast_zero] at hc
        clear H c1 c2 hb hq em
        go_wp2
        go_round
        case rel => exact ⟨i + 1, by omega, by go_num, by rw [HQ.out], H2⟩
        case measure => simp [intOf]; omega
      · rw [hb] at hc
        have e : (i : Int) = (ctzR n x : Nat) := by have := H.out; rw [c1 hb] at this; rw [this]; rfl
        have HE := hid e
        simp only [Int.natCast_one] at hc
        clear H c1 c2 hb e em
        go_wp2
        go_ret2
        exact div_post HE.out rfl K2.out
    · obtain rfl : i = n := by omega
      have e : (i : Int) = (ctzR i x : Nat) := by have := H.out; rw [Nat.sub_self] at this; rw [this]; rfl
      have HE := hid e
      clear H e
      go_wp2
      go_ret2
      exact div_post HE.out rfl K2.out

set_option maxRecDepth 100000 in
set_option maxHeartbeats 1600000 in
theorem RUn_3 (n : Nat) (hn : Okn n) (a : Nat) (ha : a < 18446744073709551616) (w : World) :
    Calls Tryz.prog 150 #[.int .i64 n, .int .i64 3, .int .u64 a] w (DivPost w (unR n 3 (a % 2 ^ n), 0)) := by
  obtain ⟨h1, h2, h3, h4⟩ := pow_lt64 hn
  have hn8 := hn.le
  have HK := hid (Right_yes n hn w)
  have HX := hid (Cut_any n hn a ha w)
  obtain ⟨x, hx⟩ : ∃ x : Nat, x = a % 2 ^ n := ⟨_, rfl⟩
  have hxl : x < 2 ^ n := by rw [hx]; exact Nat.mod_lt _ (Nat.two_pow_pos n)
  have HL := hid (list_any n hn8.2 x (by omega) w)
  rw [← hx] at HX
  rw [← hx]
  have hn64 : n ≤ 64 := hn8.2
  have hn1 : 1 ≤ n := by omega
  clear hx ha
  have hs : unR n 3 x = pop x := by rw [unR, if_neg (by decide), if_neg (by decide), if_pos rfl]
  rw [hs]
  have HXL := hid (show x / 2 ^ n = 0 from Nat.div_eq_of_lt hxl)
  clear h1 h2 h3 h4 hn hn8 hs hxl
  go_enter Tryz.func150, Tryz.ntmps150
  repeat' (first
    | (with_reducible refine wp_exit ?_; repeat (first | with_reducible refine ex_norm ?_ | with_reducible refine ex_then ?_ | with_reducible refine ex_here ?_ | with_reducible refine ex_pass rfl ?_))
    | (go_big_may; first
      | (go_at_call 196; refine HK.out.mono ?_; rintro e w' ⟨rfl, rfl⟩)
      | (go_at_call 81; ((with_reducible refine HX.out.mono ?_); rintro e w' ⟨rfl, rfl⟩))
      | (go_at_call 228; refine HL.out.mono ?_; rintro e w1 ⟨v1, rfl, hown1, hB1⟩; have K1 := hid hown1; have K2 := hid hB1; clear hown1 hB1; obtain ⟨g, cap, rfl⟩ := owned_at K1.out hn1; have hcap := own_cap2 K1.out))
    | go_values | go_skip | go_guarded | go_step | go_upon | go_back | dsimp only)
  go_loop [10, 13] (fun vk vi => ∃ i c : Nat, i ≤ n ∧ c ≤ i ∧ vi = .int .i64 i ∧ vk = .int .u64 (c : Int) ∧ Hid (pop x = c + pop (x / 2 ^ i))) (fun _ vi => n - (intOf vi).toNat)
  case atStart => exact ⟨0, 0, Nat.zero_le _, Nat.le_refl _, rfl, rfl, hid (by simp)⟩
  case round =>
    obtain ⟨i, c, hi, hci, rfl, rfl, H⟩ := hrel
    by_cases hlt : i < n
    · have hc : w1.cell? ⟨g, i, none⟩ = some (.int .u64 (btN x i : Nat)) := by
        rw [K1.out.cellAt i (by omega), fc_get (by omega)]
      have hb := btN_le x i
      have hp := pop_bit x i
      obtain ⟨t, ht⟩ : ∃ t : Nat, t = btN x i := ⟨_, rfl⟩
      rw [← ht] at hc hb hp
      have hw : IntKind.u64.wrap ((c : Int) + (t : Int)) = ((c + t : Nat) : Int) := by rw [IntKind.wrap_u64]; omega
      have H2 := hid (show pop x = (c + t) + pop (x / 2 ^ (i + 1)) by have := H.out; omega)
      obtain ⟨q, hq⟩ : ∃ q : Nat, q = c + t := ⟨_, rfl⟩
      rw [← hq] at hw H2
      have hqi : q ≤ i + 1 := by omega
      clear H hb hp ht hq
      go_wp2
      go_round
      case rel => exact ⟨i + 1, q, by omega, hqi, by go_num, rfl, H2⟩
      case measure => simp [intOf]; omega
    · obtain rfl : i = n := by omega
      have e : (c : Int) = (pop x : Nat) := by have := H.out; rw [HXL.out, pop_zero] at this; rw [this]; rfl
      have HE := hid e
      clear H e
      go_wp2
      go_ret2
      exact div_post HE.out rfl K2.out

set_option maxRecDepth 100000 in
set_option maxHeartbeats 1600000 in
theorem RUn_7 (n : Nat) (hn : Okn n) (a : Nat) (ha : a < 18446744073709551616) (w : World) :
    Calls Tryz.prog 150 #[.int .i64 n, .int .i64 7, .int .u64 a] w (DivPost w (unR n 7 (a % 2 ^ n), 0)) := by
  obtain ⟨h1, h2, h3, h4⟩ := pow_lt64 hn
  have hn8 := hn.le
  have HK := hid (Right_yes n hn w)
  have HX := hid (Cut_any n hn a ha w)
  obtain ⟨x, hx⟩ : ∃ x : Nat, x = a % 2 ^ n := ⟨_, rfl⟩
  have hxl : x < 2 ^ n := by rw [hx]; exact Nat.mod_lt _ (Nat.two_pow_pos n)
  have HL := hid (list_any n hn8.2 x (by omega) w)
  rw [← hx] at HX
  rw [← hx]
  have hn64 : n ≤ 64 := hn8.2
  have hn1 : 1 ≤ n := by omega
  clear hx ha
  have hs : unR n 7 x = (sg n x).natAbs := by rw [unR, if_neg (by decide), if_neg (by decide), if_neg (by decide), if_neg (by decide), if_neg (by decide), if_neg (by decide), if_pos rfl]
  rw [hs, sg_abs hxl]
  have htb := top_bit hn hxl
  have hneg : IntKind.u64.wrap (-(x : Int)) = (((18446744073709551616 - x) % 18446744073709551616 : Nat) : Int) := by
    rw [IntKind.wrap_u64]; omega
  have hc1 : (n : Int) - 1 = ((n - 1 : Nat) : Int) := by omega
  obtain ⟨j, hj⟩ : ∃ j : Nat, j = n - 1 := ⟨_, rfl⟩
  have hjn : j < n := by omega
  by_cases hc : 2 ^ (n - 1) ≤ x
  · rw [if_pos hc] at htb ⊢
    have HC : Hid (∀ W : World, Calls Tryz.prog 81 #[.int .i64 n, .int .u64 ((18446744073709551616 - x) % 18446744073709551616 : Nat)] W fun e w' => e = .returned (.int .u64 (2 ^ n - x : Nat)) ∧ W = w') := fun W => by
      rw [← neg_mod hn hxl hc]
      exact Cut_any n hn _ (by omega) W
    obtain ⟨t, ht⟩ : ∃ t : Nat, t = (18446744073709551616 - x) % 18446744073709551616 := ⟨_, rfl⟩
    obtain ⟨s, hse⟩ : ∃ s : Nat, s = 2 ^ n - x := ⟨_, rfl⟩
    rw [← ht] at hneg HC
    rw [← hse] at HC ⊢
    rw [← hj] at hc1 htb
    have HT : Hid (btN x j = 1) := htb
    clear h1 h2 h3 h4 hn hn8 hs hxl htb hc ht hse hj
    go_enter Tryz.func150, Tryz.ntmps150
    repeat' (first
      | (with_reducible refine wp_exit ?_; repeat (first | with_reducible refine ex_norm ?_ | with_reducible refine ex_then ?_ | with_reducible refine ex_here ?_ | with_reducible refine ex_pass rfl ?_))
      | (go_big_may; first
        | (go_at_call 196; refine HK.out.mono ?_; rintro e w' ⟨rfl, rfl⟩)
        | (go_at_call 81; ((with_reducible refine HX.out.mono ?_); rintro e w' ⟨rfl, rfl⟩))
        | (go_at_call 228; refine HL.out.mono ?_; rintro e w1 ⟨v1, rfl, hown1, hB1⟩; have K1 := hid hown1; have K2 := hid hB1; clear hown1 hB1; obtain ⟨g, cap, rfl⟩ := owned_at K1.out hn1; have hcap := own_cap2 K1.out; have hcl := K1.out.cellAt j (by omega); rw [fc_get hjn, HT.out] at hcl; simp only [Int.natCast_one] at hcl)
        | (go_at_call 81; refine (HC.out _).mono ?_; rintro e w' ⟨rfl, rfl⟩))
      | go_values | go_skip | go_guarded | go_step | go_upon | go_back | dsimp only)
    go_ret2
    exact div_post rfl rfl K2.out
  · rw [if_neg hc] at htb ⊢
    rw [← hj] at hc1 htb
    have HT : Hid (btN x j = 0) := htb
    clear h1 h2 h3 h4 hn hn8 hs hxl htb hc hj hneg
    go_enter Tryz.func150, Tryz.ntmps150
    repeat' (first
      | (with_reducible refine wp_exit ?_; repeat (first | with_reducible refine ex_norm ?_ | with_reducible refine ex_then ?_ | with_reducible refine ex_here ?_ | with_reducible refine ex_pass rfl ?_))
      | (go_big_may; first
        | (go_at_call 196; refine HK.out.mono ?_; rintro e w' ⟨rfl, rfl⟩)
        | (go_at_call 81; ((with_reducible refine HX.out.mono ?_); rintro e w' ⟨rfl, rfl⟩))
        | (go_at_call 228; refine HL.out.mono ?_; rintro e w1 ⟨v1, rfl, hown1, hB1⟩; have K1 := hid hown1; have K2 := hid hB1; clear hown1 hB1; obtain ⟨g, cap, rfl⟩ := owned_at K1.out hn1; have hcap := own_cap2 K1.out; have hcl := K1.out.cellAt j (by omega); rw [fc_get hjn, HT.out] at hcl; simp only [Int.natCast_zero] at hcl))
      | go_values | go_skip | go_guarded | go_step | go_upon | go_back | dsimp only)
    go_ret2
    exact div_post rfl rfl K2.out

set_option maxRecDepth 100000 in
set_option maxHeartbeats 1600000 in
theorem RUn_8 (n : Nat) (hn : Okn n) (a : Nat) (ha : a < 18446744073709551616) (w : World) :
    Calls Tryz.prog 150 #[.int .i64 n, .int .i64 8, .int .u64 a] w (DivPost w (unR n 8 (a % 2 ^ n), 0)) := by
  obtain ⟨h1, h2, h3, h4⟩ := pow_lt64 hn
  have hn8 := hn.le
  have HK := hid (Right_yes n hn w)
  have HX := hid (Cut_any n hn a ha w)
  obtain ⟨x, hx⟩ : ∃ x : Nat, x = a % 2 ^ n := ⟨_, rfl⟩
  have hxl : x < 2 ^ n := by rw [hx]; exact Nat.mod_lt _ (Nat.two_pow_pos n)
  have HL := hid (list_any n hn8.2 x (by omega) w)
  rw [← hx] at HX
  rw [← hx]
  have hn64 : n ≤ 64 := hn8.2
  have hn1 : 1 ≤ n := by omega
  clear hx ha
  have hs : unR n 8 x = (18446744073709551616 - x) % 18446744073709551616 % 2 ^ n := by
    rw [unR, if_neg (by decide), if_neg (by decide), if_neg (by decide), if_neg (by decide), if_neg (by decide), if_neg (by decide), if_neg (by decide)]
    clear HK HX HL hn64 hn1 hn8
    rcases hn with rfl | rfl | rfl | rfl <;> simp at hxl ⊢ <;> omega
  rw [hs]
  have hneg : IntKind.u64.wrap (-(x : Int)) = (((18446744073709551616 - x) % 18446744073709551616 : Nat) : Int) := by
    rw [IntKind.wrap_u64]; omega
  have HC : Hid (∀ W : World, Calls Tryz.prog 81 #[.int .i64 n, .int .u64 ((18446744073709551616 - x) % 18446744073709551616 : Nat)] W fun e w' => e = .returned (.int .u64 ((18446744073709551616 - x) % 18446744073709551616 % 2 ^ n : Nat)) ∧ W = w') := fun W => Cut_any n hn _ (by omega) W
  obtain ⟨t, ht⟩ : ∃ t : Nat, t = (18446744073709551616 - x) % 18446744073709551616 := ⟨_, rfl⟩
  obtain ⟨s, hse⟩ : ∃ s : Nat, s = t % 2 ^ n := ⟨_, rfl⟩
  rw [← ht] at hneg HC ⊢
  rw [← hse] at HC ⊢
  clear h1 h2 h3 h4 hn hn8 hs hxl ht hse
  go_enter Tryz.func150, Tryz.ntmps150
  repeat' (first
    | (with_reducible refine wp_exit ?_; repeat (first | with_reducible refine ex_norm ?_ | with_reducible refine ex_then ?_ | with_reducible refine ex_here ?_ | with_reducible refine ex_pass rfl ?_))
    | (go_big_may; first
      | (go_at_call 196; refine HK.out.mono ?_; rintro e w' ⟨rfl, rfl⟩)
      | (go_at_call 81; ((with_reducible refine HX.out.mono ?_); rintro e w' ⟨rfl, rfl⟩))
      | (go_at_call 228; refine HL.out.mono ?_; rintro e w1 ⟨v1, rfl, hown1, hB1⟩; have K1 := hid hown1; have K2 := hid hB1; clear hown1 hB1; obtain ⟨g, cap, rfl⟩ := owned_at K1.out hn1; have hcap := own_cap2 K1.out)
      | (go_at_call 81; refine (HC.out _).mono ?_; rintro e w' ⟨rfl, rfl⟩))
    | go_values | go_skip | go_guarded | go_step | go_upon | go_back | dsimp only)
  go_ret2
  exact div_post rfl rfl K2.out

end Go.Proofs.YtlhakbkdlgejpaaGreatDoor
