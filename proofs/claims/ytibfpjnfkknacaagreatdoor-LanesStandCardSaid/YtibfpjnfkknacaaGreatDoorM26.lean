/-
  RefRel, UnMath, Un1: merged (each text says what it holds where it lies in wip). No condition.
-/
import Derived.Test.YtibfpjnfkknacaaGreatDoorM25
import Derived.Test.YtibfpjnfkknacaaGreatDoorM23
import Derived.Test.YtibfpjnfkknacaaGreatDoorM02
set_option linter.unusedSimpArgs false
set_option linter.unusedVariables false
namespace Go.Proofs.YtibfpjnfkknacaaGreatDoor
open Go.RowKit

def RelPost (w : World) (s : Bool × Nat) (e : Ending) (w' : World) : Prop := e = .returned (.tuple #[.bool s.1, .int .i64 (s.2 : Nat)]) ∧ Below w.heap.size w w'

theorem rel_post {w w' : World} {s : Bool × Nat} {v : Bool} {c : Int} (h1 : v = s.1) (h2 : c = (s.2 : Nat)) (hb : Below w.heap.size w w') : RelPost w s (.returned (.tuple #[.bool v, .int .i64 c])) w' := by
  subst h1; subst h2; exact ⟨rfl, hb⟩

set_option maxRecDepth 100000 in
set_option maxHeartbeats 800000 in
theorem RRel_1 (n : Nat) (hn : Okn n) (a b : Nat) (ha : a < 18446744073709551616) (hb : b < 18446744073709551616) (w : World) :
    Calls Tryz.prog 174 #[.int .i64 n, .int .i64 1, .int .u64 a, .int .u64 b] w (RelPost w (relR n 1 (a % 2 ^ n) (b % 2 ^ n), 0)) := by
  have HK := hid (Right_yes n hn w)
  have HX := hid (Cut_any n hn a ha w)
  have HY := hid (Cut_any n hn b hb w)
  obtain ⟨x, hx⟩ : ∃ x : Nat, x = a % 2 ^ n := ⟨_, rfl⟩
  obtain ⟨y, hy⟩ : ∃ y : Nat, y = b % 2 ^ n := ⟨_, rfl⟩
  have hxl : x < 2 ^ n := by rw [hx]; exact Nat.mod_lt _ (Nat.two_pow_pos n)
  have hyl : y < 2 ^ n := by rw [hy]; exact Nat.mod_lt _ (Nat.two_pow_pos n)
  have HSX := hid (RSigned_cut n hn x hxl w)
  have HSY := hid (RSigned_cut n hn y hyl w)
  rw [← hx] at HX
  rw [← hy] at HY
  rw [← hx, ← hy]
  obtain ⟨sx, hsx⟩ : ∃ s, s = sg n x := ⟨_, rfl⟩
  obtain ⟨sy, hsy⟩ : ∃ s, s = sg n y := ⟨_, rfl⟩
  rw [← hsx] at HSX
  rw [← hsy] at HSY
  have hd : relR n 1 x y = decide (x = y) := by rw [relR, if_pos rfl]
  rw [hd]
  clear hx hy ha hb hn hxl hyl hsx hsy hd
  go_enter Tryz.func174, Tryz.ntmps174
  go_wp2_with (first
      | (go_at_call 167; refine HK.out.mono ?_; rintro e w' ⟨rfl, rfl⟩)
      | (go_at_call 70; ((with_reducible refine HX.out.mono ?_); rintro e w' ⟨rfl, rfl⟩))
      | (go_at_call 70; ((with_reducible refine HY.out.mono ?_); rintro e w' ⟨rfl, rfl⟩))
      | (go_at_call 166; ((with_reducible refine HSX.out.mono ?_); rintro e w' ⟨rfl, rfl⟩))
      | (go_at_call 166; ((with_reducible refine HSY.out.mono ?_); rintro e w' ⟨rfl, rfl⟩)))
  go_ret2
  refine rel_post ?_ rfl ?_
  · first | rfl | (rw [Bool.eq_iff_iff]; simp; try omega)
  · exact (Below.refl _ _).alloc (Nat.le_refl _) _

set_option maxRecDepth 100000 in
set_option maxHeartbeats 800000 in
theorem RRel_2 (n : Nat) (hn : Okn n) (a b : Nat) (ha : a < 18446744073709551616) (hb : b < 18446744073709551616) (w : World) :
    Calls Tryz.prog 174 #[.int .i64 n, .int .i64 2, .int .u64 a, .int .u64 b] w (RelPost w (relR n 2 (a % 2 ^ n) (b % 2 ^ n), 0)) := by
  have HK := hid (Right_yes n hn w)
  have HX := hid (Cut_any n hn a ha w)
  have HY := hid (Cut_any n hn b hb w)
  obtain ⟨x, hx⟩ : ∃ x : Nat, x = a % 2 ^ n := ⟨_, rfl⟩
  obtain ⟨y, hy⟩ : ∃ y : Nat, y = b % 2 ^ n := ⟨_, rfl⟩
  have hxl : x < 2 ^ n := by rw [hx]; exact Nat.mod_lt _ (Nat.two_pow_pos n)
  have hyl : y < 2 ^ n := by rw [hy]; exact Nat.mod_lt _ (Nat.two_pow_pos n)
  have HSX := hid (RSigned_cut n hn x hxl w)
  have HSY := hid (RSigned_cut n hn y hyl w)
  rw [← hx] at HX
  rw [← hy] at HY
  rw [← hx, ← hy]
  obtain ⟨sx, hsx⟩ : ∃ s, s = sg n x := ⟨_, rfl⟩
  obtain ⟨sy, hsy⟩ : ∃ s, s = sg n y := ⟨_, rfl⟩
  rw [← hsx] at HSX
  rw [← hsy] at HSY
  have hd : relR n 2 x y = decide (x ≠ y) := by rw [relR, if_neg (by decide), if_pos rfl]
  rw [hd]
  clear hx hy ha hb hn hxl hyl hsx hsy hd
  go_enter Tryz.func174, Tryz.ntmps174
  go_wp2_with (first
      | (go_at_call 167; refine HK.out.mono ?_; rintro e w' ⟨rfl, rfl⟩)
      | (go_at_call 70; ((with_reducible refine HX.out.mono ?_); rintro e w' ⟨rfl, rfl⟩))
      | (go_at_call 70; ((with_reducible refine HY.out.mono ?_); rintro e w' ⟨rfl, rfl⟩))
      | (go_at_call 166; ((with_reducible refine HSX.out.mono ?_); rintro e w' ⟨rfl, rfl⟩))
      | (go_at_call 166; ((with_reducible refine HSY.out.mono ?_); rintro e w' ⟨rfl, rfl⟩)))
  go_ret2
  refine rel_post ?_ rfl ?_
  · first | rfl | (rw [Bool.eq_iff_iff]; simp; try omega)
  · exact (Below.refl _ _).alloc (Nat.le_refl _) _

set_option maxRecDepth 100000 in
set_option maxHeartbeats 800000 in
theorem RRel_3 (n : Nat) (hn : Okn n) (a b : Nat) (ha : a < 18446744073709551616) (hb : b < 18446744073709551616) (w : World) :
    Calls Tryz.prog 174 #[.int .i64 n, .int .i64 3, .int .u64 a, .int .u64 b] w (RelPost w (relR n 3 (a % 2 ^ n) (b % 2 ^ n), 0)) := by
  have HK := hid (Right_yes n hn w)
  have HX := hid (Cut_any n hn a ha w)
  have HY := hid (Cut_any n hn b hb w)
  obtain ⟨x, hx⟩ : ∃ x : Nat, x = a % 2 ^ n := ⟨_, rfl⟩
  obtain ⟨y, hy⟩ : ∃ y : Nat, y = b % 2 ^ n := ⟨_, rfl⟩
  have hxl : x < 2 ^ n := by rw [hx]; exact Nat.mod_lt _ (Nat.two_pow_pos n)
  have hyl : y < 2 ^ n := by rw [hy]; exact Nat.mod_lt _ (Nat.two_pow_pos n)
  have HSX := hid (RSigned_cut n hn x hxl w)
  have HSY := hid (RSigned_cut n hn y hyl w)
  rw [← hx] at HX
  rw [← hy] at HY
  rw [← hx, ← hy]
  obtain ⟨sx, hsx⟩ : ∃ s, s = sg n x := ⟨_, rfl⟩
  obtain ⟨sy, hsy⟩ : ∃ s, s = sg n y := ⟨_, rfl⟩
  rw [← hsx] at HSX
  rw [← hsy] at HSY
  have hd : relR n 3 x y = decide (sx < sy) := by rw [relR, if_neg (by decide), if_neg (by decide), if_pos rfl, ← hsx, ← hsy]
  rw [hd]
  clear hx hy ha hb hn hxl hyl hsx hsy hd
  go_enter Tryz.func174, Tryz.ntmps174
  go_wp2_with (first
      | (go_at_call 167; refine HK.out.mono ?_; rintro e w' ⟨rfl, rfl⟩)
      | (go_at_call 70; ((with_reducible refine HX.out.mono ?_); rintro e w' ⟨rfl, rfl⟩))
      | (go_at_call 70; ((with_reducible refine HY.out.mono ?_); rintro e w' ⟨rfl, rfl⟩))
      | (go_at_call 166; ((with_reducible refine HSX.out.mono ?_); rintro e w' ⟨rfl, rfl⟩))
      | (go_at_call 166; ((with_reducible refine HSY.out.mono ?_); rintro e w' ⟨rfl, rfl⟩)))
  go_ret2
  refine rel_post ?_ rfl ?_
  · first | rfl | (rw [Bool.eq_iff_iff]; simp; try omega)
  · exact (Below.refl _ _).alloc (Nat.le_refl _) _

set_option maxRecDepth 100000 in
set_option maxHeartbeats 800000 in
theorem RRel_4 (n : Nat) (hn : Okn n) (a b : Nat) (ha : a < 18446744073709551616) (hb : b < 18446744073709551616) (w : World) :
    Calls Tryz.prog 174 #[.int .i64 n, .int .i64 4, .int .u64 a, .int .u64 b] w (RelPost w (relR n 4 (a % 2 ^ n) (b % 2 ^ n), 0)) := by
  have HK := hid (Right_yes n hn w)
  have HX := hid (Cut_any n hn a ha w)
  have HY := hid (Cut_any n hn b hb w)
  obtain ⟨x, hx⟩ : ∃ x : Nat, x = a % 2 ^ n := ⟨_, rfl⟩
  obtain ⟨y, hy⟩ : ∃ y : Nat, y = b % 2 ^ n := ⟨_, rfl⟩
  have hxl : x < 2 ^ n := by rw [hx]; exact Nat.mod_lt _ (Nat.two_pow_pos n)
  have hyl : y < 2 ^ n := by rw [hy]; exact Nat.mod_lt _ (Nat.two_pow_pos n)
  have HSX := hid (RSigned_cut n hn x hxl w)
  have HSY := hid (RSigned_cut n hn y hyl w)
  rw [← hx] at HX
  rw [← hy] at HY
  rw [← hx, ← hy]
  obtain ⟨sx, hsx⟩ : ∃ s, s = sg n x := ⟨_, rfl⟩
  obtain ⟨sy, hsy⟩ : ∃ s, s = sg n y := ⟨_, rfl⟩
  rw [← hsx] at HSX
  rw [← hsy] at HSY
  have hd : relR n 4 x y = decide (x < y) := by rw [relR, if_neg (by decide), if_neg (by decide), if_neg (by decide), if_pos rfl]
  rw [hd]
  clear hx hy ha hb hn hxl hyl hsx hsy hd
  go_enter Tryz.func174, Tryz.ntmps174
  go_wp2_with (first
      | (go_at_call 167; refine HK.out.mono ?_; rintro e w' ⟨rfl, rfl⟩)
      | (go_at_call 70; ((with_reducible refine HX.out.mono ?_); rintro e w' ⟨rfl, rfl⟩))
      | (go_at_call 70; ((with_reducible refine HY.out.mono ?_); rintro e w' ⟨rfl, rfl⟩))
      | (go_at_call 166; ((with_reducible refine HSX.out.mono ?_); rintro e w' ⟨rfl, rfl⟩))
      | (go_at_call 166; ((with_reducible refine HSY.out.mono ?_); rintro e w' ⟨rfl, rfl⟩)))
  go_ret2
  refine rel_post ?_ rfl ?_
  · first | rfl | (rw [Bool.eq_iff_iff]; simp; try omega)
  · exact (Below.refl _ _).alloc (Nat.le_refl _) _

set_option maxRecDepth 100000 in
set_option maxHeartbeats 800000 in
theorem RRel_5 (n : Nat) (hn : Okn n) (a b : Nat) (ha : a < 18446744073709551616) (hb : b < 18446744073709551616) (w : World) :
    Calls Tryz.prog 174 #[.int .i64 n, .int .i64 5, .int .u64 a, .int .u64 b] w (RelPost w (relR n 5 (a % 2 ^ n) (b % 2 ^ n), 0)) := by
  have HK := hid (Right_yes n hn w)
  have HX := hid (Cut_any n hn a ha w)
  have HY := hid (Cut_any n hn b hb w)
  obtain ⟨x, hx⟩ : ∃ x : Nat, x = a % 2 ^ n := ⟨_, rfl⟩
  obtain ⟨y, hy⟩ : ∃ y : Nat, y = b % 2 ^ n := ⟨_, rfl⟩
  have hxl : x < 2 ^ n := by rw [hx]; exact Nat.mod_lt _ (Nat.two_pow_pos n)
  have hyl : y < 2 ^ n := by rw [hy]; exact Nat.mod_lt _ (Nat.two_pow_pos n)
  have HSX := hid (RSigned_cut n hn x hxl w)
  have HSY := hid (RSigned_cut n hn y hyl w)
  rw [← hx] at HX
  rw [← hy] at HY
  rw [← hx, ← hy]
  obtain ⟨sx, hsx⟩ : ∃ s, s = sg n x := ⟨_, rfl⟩
  obtain ⟨sy, hsy⟩ : ∃ s, s = sg n y := ⟨_, rfl⟩
  rw [← hsx] at HSX
  rw [← hsy] at HSY
  have hd : relR n 5 x y = decide (sy < sx) := by rw [relR, if_neg (by decide), if_neg (by decide), if_neg (by decide), if_neg (by decide), if_pos rfl, ← hsx, ← hsy]
  rw [hd]
  clear hx hy ha hb hn hxl hyl hsx hsy hd
  go_enter Tryz.func174, Tryz.ntmps174
  go_wp2_with (first
      | (go_at_call 167; refine HK.out.mono ?_; rintro e w' ⟨rfl, rfl⟩)
      | (go_at_call 70; ((with_reducible refine HX.out.mono ?_); rintro e w' ⟨rfl, rfl⟩))
      | (go_at_call 70; ((with_reducible refine HY.out.mono ?_); rintro e w' ⟨rfl, rfl⟩))
      | (go_at_call 166; ((with_reducible refine HSX.out.mono ?_); rintro e w' ⟨rfl, rfl⟩))
      | (go_at_call 166; ((with_reducible refine HSY.out.mono ?_); rintro e w' ⟨rfl, rfl⟩)))
  go_ret2
  refine rel_post ?_ rfl ?_
  · first | rfl | (rw [Bool.eq_iff_iff]; simp; try omega)
  · exact (Below.refl _ _).alloc (Nat.le_refl _) _

set_option maxRecDepth 100000 in
set_option maxHeartbeats 800000 in
theorem RRel_6 (n : Nat) (hn : Okn n) (a b : Nat) (ha : a < 18446744073709551616) (hb : b < 18446744073709551616) (w : World) :
    Calls Tryz.prog 174 #[.int .i64 n, .int .i64 6, .int .u64 a, .int .u64 b] w (RelPost w (relR n 6 (a % 2 ^ n) (b % 2 ^ n), 0)) := by
  have HK := hid (Right_yes n hn w)
  have HX := hid (Cut_any n hn a ha w)
  have HY := hid (Cut_any n hn b hb w)
  obtain ⟨x, hx⟩ : ∃ x : Nat, x = a % 2 ^ n := ⟨_, rfl⟩
  obtain ⟨y, hy⟩ : ∃ y : Nat, y = b % 2 ^ n := ⟨_, rfl⟩
  have hxl : x < 2 ^ n := by rw [hx]; exact Nat.mod_lt _ (Nat.two_pow_pos n)
  have hyl : y < 2 ^ n := by rw [hy]; exact Nat.mod_lt _ (Nat.two_pow_pos n)
  have HSX := hid (RSigned_cut n hn x hxl w)
  have HSY := hid (RSigned_cut n hn y hyl w)
  rw [← hx] at HX
  rw [← hy] at HY
  rw [← hx, ← hy]
  obtain ⟨sx, hsx⟩ : ∃ s, s = sg n x := ⟨_, rfl⟩
  obtain ⟨sy, hsy⟩ : ∃ s, s = sg n y := ⟨_, rfl⟩
  rw [← hsx] at HSX
  rw [← hsy] at HSY
  have hd : relR n 6 x y = decide (y < x) := by rw [relR, if_neg (by decide), if_neg (by decide), if_neg (by decide), if_neg (by decide), if_neg (by decide), if_pos rfl]
  rw [hd]
  clear hx hy ha hb hn hxl hyl hsx hsy hd
  go_enter Tryz.func174, Tryz.ntmps174
  go_wp2_with (first
      | (go_at_call 167; refine HK.out.mono ?_; rintro e w' ⟨rfl, rfl⟩)
      | (go_at_call 70; ((with_reducible refine HX.out.mono ?_); rintro e w' ⟨rfl, rfl⟩))
      | (go_at_call 70; ((with_reducible refine HY.out.mono ?_); rintro e w' ⟨rfl, rfl⟩))
      | (go_at_call 166; ((with_reducible refine HSX.out.mono ?_); rintro e w' ⟨rfl, rfl⟩))
      | (go_at_call 166; ((with_reducible refine HSY.out.mono ?_); rintro e w' ⟨rfl, rfl⟩)))
  go_ret2
  refine rel_post ?_ rfl ?_
  · first | rfl | (rw [Bool.eq_iff_iff]; simp; try omega)
  · exact (Below.refl _ _).alloc (Nat.le_refl _) _

set_option maxRecDepth 100000 in
set_option maxHeartbeats 800000 in
theorem RRel_7 (n : Nat) (hn : Okn n) (a b : Nat) (ha : a < 18446744073709551616) (hb : b < 18446744073709551616) (w : World) :
    Calls Tryz.prog 174 #[.int .i64 n, .int .i64 7, .int .u64 a, .int .u64 b] w (RelPost w (relR n 7 (a % 2 ^ n) (b % 2 ^ n), 0)) := by
  have HK := hid (Right_yes n hn w)
  have HX := hid (Cut_any n hn a ha w)
  have HY := hid (Cut_any n hn b hb w)
  obtain ⟨x, hx⟩ : ∃ x : Nat, x = a % 2 ^ n := ⟨_, rfl⟩
  obtain ⟨y, hy⟩ : ∃ y : Nat, y = b % 2 ^ n := ⟨_, rfl⟩
  have hxl : x < 2 ^ n := by rw [hx]; exact Nat.mod_lt _ (Nat.two_pow_pos n)
  have hyl : y < 2 ^ n := by rw [hy]; exact Nat.mod_lt _ (Nat.two_pow_pos n)
  have HSX := hid (RSigned_cut n hn x hxl w)
  have HSY := hid (RSigned_cut n hn y hyl w)
  rw [← hx] at HX
  rw [← hy] at HY
  rw [← hx, ← hy]
  obtain ⟨sx, hsx⟩ : ∃ s, s = sg n x := ⟨_, rfl⟩
  obtain ⟨sy, hsy⟩ : ∃ s, s = sg n y := ⟨_, rfl⟩
  rw [← hsx] at HSX
  rw [← hsy] at HSY
  have hd : relR n 7 x y = decide (sx ≤ sy) := by rw [relR, if_neg (by decide), if_neg (by decide), if_neg (by decide), if_neg (by decide), if_neg (by decide), if_neg (by decide), if_pos rfl, ← hsx, ← hsy]
  rw [hd]
  clear hx hy ha hb hn hxl hyl hsx hsy hd
  go_enter Tryz.func174, Tryz.ntmps174
  go_wp2_with (first
      | (go_at_call 167; refine HK.out.mono ?_; rintro e w' ⟨rfl, rfl⟩)
      | (go_at_call 70; ((with_reducible refine HX.out.mono ?_); rintro e w' ⟨rfl, rfl⟩))
      | (go_at_call 70; ((with_reducible refine HY.out.mono ?_); rintro e w' ⟨rfl, rfl⟩))
      | (go_at_call 166; ((with_reducible refine HSX.out.mono ?_); rintro e w' ⟨rfl, rfl⟩))
      | (go_at_call 166; ((with_reducible refine HSY.out.mono ?_); rintro e w' ⟨rfl, rfl⟩)))
  go_ret2
  refine rel_post ?_ rfl ?_
  · first | rfl | (rw [Bool.eq_iff_iff]; simp; try omega)
  · exact (Below.refl _ _).alloc (Nat.le_refl _) _

set_option maxRecDepth 100000 in
set_option maxHeartbeats 800000 in
theorem RRel_8 (n : Nat) (hn : Okn n) (a b : Nat) (ha : a < 18446744073709551616) (hb : b < 18446744073709551616) (w : World) :
    Calls Tryz.prog 174 #[.int .i64 n, .int .i64 8, .int .u64 a, .int .u64 b] w (RelPost w (relR n 8 (a % 2 ^ n) (b % 2 ^ n), 0)) := by
  have HK := hid (Right_yes n hn w)
  have HX := hid (Cut_any n hn a ha w)
  have HY := hid (Cut_any n hn b hb w)
  obtain ⟨x, hx⟩ : ∃ x : Nat, x = a % 2 ^ n := ⟨_, rfl⟩
  obtain ⟨y, hy⟩ : ∃ y : Nat, y = b % 2 ^ n := ⟨_, rfl⟩
  have hxl : x < 2 ^ n := by rw [hx]; exact Nat.mod_lt _ (Nat.two_pow_pos n)
  have hyl : y < 2 ^ n := by rw [hy]; exact Nat.mod_lt _ (Nat.two_pow_pos n)
  have HSX := hid (RSigned_cut n hn x hxl w)
  have HSY := hid (RSigned_cut n hn y hyl w)
  rw [← hx] at HX
  rw [← hy] at HY
  rw [← hx, ← hy]
  obtain ⟨sx, hsx⟩ : ∃ s, s = sg n x := ⟨_, rfl⟩
  obtain ⟨sy, hsy⟩ : ∃ s, s = sg n y := ⟨_, rfl⟩
  rw [← hsx] at HSX
  rw [← hsy] at HSY
  have hd : relR n 8 x y = decide (x ≤ y) := by rw [relR, if_neg (by decide), if_neg (by decide), if_neg (by decide), if_neg (by decide), if_neg (by decide), if_neg (by decide), if_neg (by decide), if_pos rfl]
  rw [hd]
  clear hx hy ha hb hn hxl hyl hsx hsy hd
  go_enter Tryz.func174, Tryz.ntmps174
  go_wp2_with (first
      | (go_at_call 167; refine HK.out.mono ?_; rintro e w' ⟨rfl, rfl⟩)
      | (go_at_call 70; ((with_reducible refine HX.out.mono ?_); rintro e w' ⟨rfl, rfl⟩))
      | (go_at_call 70; ((with_reducible refine HY.out.mono ?_); rintro e w' ⟨rfl, rfl⟩))
      | (go_at_call 166; ((with_reducible refine HSX.out.mono ?_); rintro e w' ⟨rfl, rfl⟩))
      | (go_at_call 166; ((with_reducible refine HSY.out.mono ?_); rintro e w' ⟨rfl, rfl⟩)))
  go_ret2
  refine rel_post ?_ rfl ?_
  · first | rfl | (rw [Bool.eq_iff_iff]; simp; try omega)
  · exact (Below.refl _ _).alloc (Nat.le_refl _) _

set_option maxRecDepth 100000 in
set_option maxHeartbeats 800000 in
theorem RRel_9 (n : Nat) (hn : Okn n) (a b : Nat) (ha : a < 18446744073709551616) (hb : b < 18446744073709551616) (w : World) :
    Calls Tryz.prog 174 #[.int .i64 n, .int .i64 9, .int .u64 a, .int .u64 b] w (RelPost w (relR n 9 (a % 2 ^ n) (b % 2 ^ n), 0)) := by
  have HK := hid (Right_yes n hn w)
  have HX := hid (Cut_any n hn a ha w)
  have HY := hid (Cut_any n hn b hb w)
  obtain ⟨x, hx⟩ : ∃ x : Nat, x = a % 2 ^ n := ⟨_, rfl⟩
  obtain ⟨y, hy⟩ : ∃ y : Nat, y = b % 2 ^ n := ⟨_, rfl⟩
  have hxl : x < 2 ^ n := by rw [hx]; exact Nat.mod_lt _ (Nat.two_pow_pos n)
  have hyl : y < 2 ^ n := by rw [hy]; exact Nat.mod_lt _ (Nat.two_pow_pos n)
  have HSX := hid (RSigned_cut n hn x hxl w)
  have HSY := hid (RSigned_cut n hn y hyl w)
  rw [← hx] at HX
  rw [← hy] at HY
  rw [← hx, ← hy]
  obtain ⟨sx, hsx⟩ : ∃ s, s = sg n x := ⟨_, rfl⟩
  obtain ⟨sy, hsy⟩ : ∃ s, s = sg n y := ⟨_, rfl⟩
  rw [← hsx] at HSX
  rw [← hsy] at HSY
  have hd : relR n 9 x y = decide (sy ≤ sx) := by rw [relR, if_neg (by decide), if_neg (by decide), if_neg (by decide), if_neg (by decide), if_neg (by decide), if_neg (by decide), if_neg (by decide), if_neg (by decide), if_pos rfl, ← hsx, ← hsy]
  rw [hd]
  clear hx hy ha hb hn hxl hyl hsx hsy hd
  go_enter Tryz.func174, Tryz.ntmps174
  go_wp2_with (first
      | (go_at_call 167; refine HK.out.mono ?_; rintro e w' ⟨rfl, rfl⟩)
      | (go_at_call 70; ((with_reducible refine HX.out.mono ?_); rintro e w' ⟨rfl, rfl⟩))
      | (go_at_call 70; ((with_reducible refine HY.out.mono ?_); rintro e w' ⟨rfl, rfl⟩))
      | (go_at_call 166; ((with_reducible refine HSX.out.mono ?_); rintro e w' ⟨rfl, rfl⟩))
      | (go_at_call 166; ((with_reducible refine HSY.out.mono ?_); rintro e w' ⟨rfl, rfl⟩)))
  go_ret2
  refine rel_post ?_ rfl ?_
  · first | rfl | (rw [Bool.eq_iff_iff]; simp; try omega)
  · exact (Below.refl _ _).alloc (Nat.le_refl _) _

set_option maxRecDepth 100000 in
set_option maxHeartbeats 800000 in
theorem RRel_10 (n : Nat) (hn : Okn n) (a b : Nat) (ha : a < 18446744073709551616) (hb : b < 18446744073709551616) (w : World) :
    Calls Tryz.prog 174 #[.int .i64 n, .int .i64 10, .int .u64 a, .int .u64 b] w (RelPost w (relR n 10 (a % 2 ^ n) (b % 2 ^ n), 0)) := by
  have HK := hid (Right_yes n hn w)
  have HX := hid (Cut_any n hn a ha w)
  have HY := hid (Cut_any n hn b hb w)
  obtain ⟨x, hx⟩ : ∃ x : Nat, x = a % 2 ^ n := ⟨_, rfl⟩
  obtain ⟨y, hy⟩ : ∃ y : Nat, y = b % 2 ^ n := ⟨_, rfl⟩
  have hxl : x < 2 ^ n := by rw [hx]; exact Nat.mod_lt _ (Nat.two_pow_pos n)
  have hyl : y < 2 ^ n := by rw [hy]; exact Nat.mod_lt _ (Nat.two_pow_pos n)
  have HSX := hid (RSigned_cut n hn x hxl w)
  have HSY := hid (RSigned_cut n hn y hyl w)
  rw [← hx] at HX
  rw [← hy] at HY
  rw [← hx, ← hy]
  obtain ⟨sx, hsx⟩ : ∃ s, s = sg n x := ⟨_, rfl⟩
  obtain ⟨sy, hsy⟩ : ∃ s, s = sg n y := ⟨_, rfl⟩
  rw [← hsx] at HSX
  rw [← hsy] at HSY
  have hd : relR n 10 x y = decide (y ≤ x) := by rw [relR, if_neg (by decide), if_neg (by decide), if_neg (by decide), if_neg (by decide), if_neg (by decide), if_neg (by decide), if_neg (by decide), if_neg (by decide), if_neg (by decide)]
  rw [hd]
  clear hx hy ha hb hn hxl hyl hsx hsy hd
  go_enter Tryz.func174, Tryz.ntmps174
  go_wp2_with (first
      | (go_at_call 167; refine HK.out.mono ?_; rintro e w' ⟨rfl, rfl⟩)
      | (go_at_call 70; ((with_reducible refine HX.out.mono ?_); rintro e w' ⟨rfl, rfl⟩))
      | (go_at_call 70; ((with_reducible refine HY.out.mono ?_); rintro e w' ⟨rfl, rfl⟩))
      | (go_at_call 166; ((with_reducible refine HSX.out.mono ?_); rintro e w' ⟨rfl, rfl⟩))
      | (go_at_call 166; ((with_reducible refine HSY.out.mono ?_); rintro e w' ⟨rfl, rfl⟩)))
  go_ret2
  refine rel_post ?_ rfl ?_
  · first | rfl | (rw [Bool.eq_iff_iff]; simp; try omega)
  · exact (Below.refl _ _).alloc (Nat.le_refl _) _

theorem RRel_noBits (b : Int) (hb : Bad b) (op x y : Int) (w : World) :
    Calls Tryz.prog 174 #[.int .i64 b, .int .i64 op, .int .u64 x, .int .u64 y] w (RelPost w (false, 1)) := by
  have HK := hid (Right_no b hb w)
  clear hb
  go_enter Tryz.func174, Tryz.ntmps174
  go_wp2_with (go_at_call 167; refine HK.out.mono ?_; rintro e w' ⟨rfl, rfl⟩)
  go_ret2
  exact rel_post rfl rfl (Below.refl _ _)

theorem RRel_low (n : Nat) (hn : Okn n) (op x y : Int) (hop : op < 1) (w : World) :
    Calls Tryz.prog 174 #[.int .i64 n, .int .i64 op, .int .u64 x, .int .u64 y] w (RelPost w (false, 1)) := by
  have HK := hid (Right_yes n hn w)
  have h1 : decide (op < 1) = true := decide_eq_true hop
  clear hn hop
  go_enter Tryz.func174, Tryz.ntmps174
  go_wp2_with (go_at_call 167; refine HK.out.mono ?_; rintro e w' ⟨rfl, rfl⟩)
  go_ret2
  exact rel_post rfl rfl (Below.refl _ _)

theorem RRel_high (n : Nat) (hn : Okn n) (op x y : Int) (hop : 10 < op) (w : World) :
    Calls Tryz.prog 174 #[.int .i64 n, .int .i64 op, .int .u64 x, .int .u64 y] w (RelPost w (false, 1)) := by
  have HK := hid (Right_yes n hn w)
  have h1 : decide (op < 1) = false := decide_eq_false (by omega)
  have h2 : decide (10 < op) = true := decide_eq_true hop
  clear hn hop
  go_enter Tryz.func174, Tryz.ntmps174
  go_wp2_with (go_at_call 167; refine HK.out.mono ?_; rintro e w' ⟨rfl, rfl⟩)
  go_ret2
  exact rel_post rfl rfl (Below.refl _ _)

/-- Rel of the document: the answer and error, whatever is asked. -/
theorem RRel_any (bits op : Int) (a b : Nat) (ha : a < 18446744073709551616) (hb : b < 18446744073709551616) (w : World) :
    Calls Tryz.prog 174 #[.int .i64 bits, .int .i64 op, .int .u64 a, .int .u64 b] w (RelPost w (relA bits op a b)) := by
  by_cases hbits : Okn bits.toNat
  · obtain ⟨n, rfl⟩ : ∃ n : Nat, bits = (n : Int) := ⟨bits.toNat, by have := hbits.le; omega⟩
    rw [Int.toNat_natCast] at hbits
    by_cases hop : 1 ≤ op ∧ op ≤ 10
    · obtain ⟨k, rfl⟩ : ∃ k : Nat, op = (k : Int) := ⟨op.toNat, by omega⟩
      rw [relA, if_pos ⟨by simpa using hbits, by omega, by omega⟩, Int.toNat_natCast, Int.toNat_natCast]
      have hk : k = 1 ∨ k = 2 ∨ k = 3 ∨ k = 4 ∨ k = 5 ∨ k = 6 ∨ k = 7 ∨ k = 8 ∨ k = 9 ∨ k = 10 := by omega
      rcases hk with rfl | rfl | rfl | rfl | rfl | rfl | rfl | rfl | rfl | rfl
      · exact RRel_1 n hbits a b ha hb w
      · exact RRel_2 n hbits a b ha hb w
      · exact RRel_3 n hbits a b ha hb w
      · exact RRel_4 n hbits a b ha hb w
      · exact RRel_5 n hbits a b ha hb w
      · exact RRel_6 n hbits a b ha hb w
      · exact RRel_7 n hbits a b ha hb w
      · exact RRel_8 n hbits a b ha hb w
      · exact RRel_9 n hbits a b ha hb w
      · exact RRel_10 n hbits a b ha hb w
    · rw [relA, if_neg (fun h => hop ⟨h.2.1, h.2.2⟩)]
      by_cases h1 : op < 1
      · exact RRel_low n hbits op a b h1 w
      · exact RRel_high n hbits op a b (by omega) w
  · rw [relA, if_neg (fun h => hbits h.1)]
    exact RRel_noBits bits (by unfold Bad; unfold Okn at hbits; omega) op a b w

end Go.Proofs.YtibfpjnfkknacaaGreatDoor
set_option linter.unusedSimpArgs false
set_option linter.unusedVariables false
namespace Go.Proofs.YtibfpjnfkknacaaGreatDoor
open Go

theorem pop_zero : pop 0 = 0 := by rw [pop]; simp
theorem pop_step {a : Nat} (h : a ≠ 0) : pop a = a % 2 + pop (a / 2) := by rw [pop, dif_neg h]
theorem pop_any (a : Nat) : pop a = a % 2 + pop (a / 2) := by
  by_cases h : a = 0
  · subst h; simp [pop_zero]
  · exact pop_step h

theorem pop_le : ∀ (k a : Nat), a < 2 ^ k → pop a ≤ k
  | 0, a, h => by
    have : a = 0 := by simpa using h
    subst this
    simp [pop_zero]
  | k + 1, a, h => by
    have ih := pop_le k (a / 2) (by rw [Nat.pow_succ] at h; omega)
    rw [pop_any]; omega

theorem pop_pos {a : Nat} (h : a ≠ 0) : 1 ≤ pop a := by
  induction a using Nat.strongRecOn with
  | _ a ih =>
    rw [pop_step h]
    by_cases h2 : a % 2 = 1
    · omega
    · have := ih (a / 2) (by omega) (by omega)
      omega

theorem and_halves (a b : Nat) : (a &&& b) / 2 = a / 2 &&& b / 2 := by
  have := @Nat.and_div_two_pow a b 1
  simpa using this
theorem and_low (a b : Nat) : (a &&& b) % 2 = (a % 2) &&& (b % 2) := by
  have := @Nat.and_mod_two_pow a b 1
  simpa using this

/-- The lowest 1 bit goes. -/
theorem pop_less {a : Nat} (h : a ≠ 0) : pop (a &&& (a - 1)) + 1 = pop a := by
  induction a using Nat.strongRecOn with
  | _ a ih =>
    have e1 := and_halves a (a - 1)
    have e2 := and_low a (a - 1)
    rw [pop_step h, pop_any (a &&& (a - 1)), e1, e2]
    by_cases h2 : a % 2 = 1
    · have h3 : (a - 1) / 2 = a / 2 := by omega
      have h4 : (a - 1) % 2 = 0 := by omega
      rw [h3, h4, h2, Nat.and_self]
      simp
      omega
    · have h3 : (a - 1) / 2 = a / 2 - 1 := by omega
      have h5 : a % 2 = 0 := by omega
      have := ih (a / 2) (by omega) (by omega)
      rw [h3, h5]
      simp
      omega

theorem pop_ones : ∀ k : Nat, pop (2 ^ k - 1) = k
  | 0 => by simp [pop_zero]
  | k + 1 => by
    have hp := Nat.two_pow_pos k
    rw [pop_any, Nat.pow_succ]
    have h1 : (2 ^ k * 2 - 1) / 2 = 2 ^ k - 1 := by omega
    have h2 : (2 ^ k * 2 - 1) % 2 = 1 := by omega
    rw [h1, h2, pop_ones k]
    omega

theorem ctzR_zero : ∀ k : Nat, ctzR k 0 = k
  | 0 => rfl
  | k + 1 => by
    rw [ctzR, if_neg (by decide), Nat.zero_div, ctzR_zero k]
    omega

theorem ctzR_le : ∀ k a : Nat, ctzR k a ≤ k
  | 0, _ => Nat.le_refl _
  | k + 1, a => by
    rw [ctzR]
    split
    · omega
    · have := ctzR_le k (a / 2)
      omega

theorem ctzR_same : ∀ (n m a : Nat), n ≤ m → 1 ≤ a → a < 2 ^ n → ctzR m a = ctzR n a
  | 0, _, a, _, h1, h2 => by simp at h2; omega
  | n + 1, m, a, hm, h1, h2 => by
    obtain ⟨k, rfl⟩ : ∃ k, m = k + 1 := ⟨m - 1, by omega⟩
    rw [ctzR, ctzR]
    split
    · rfl
    · rw [ctzR_same n k (a / 2) (by omega) (by omega) (by rw [Nat.pow_succ] at h2; omega)]

theorem and_not_self : ∀ (W c : Nat), c < 2 ^ W → (2 ^ W - 1 - c) &&& c = 0
  | 0, c, h => by
    have : c = 0 := by simpa using h
    subst this; rfl
  | W + 1, c, h => by
    have hp := Nat.two_pow_pos W
    rw [Nat.pow_succ] at h ⊢
    have ih := and_not_self W (c / 2) (by omega)
    have e1 := and_halves (2 ^ W * 2 - 1 - c) c
    have e2 := and_low (2 ^ W * 2 - 1 - c) c
    have h1 : (2 ^ W * 2 - 1 - c) / 2 = 2 ^ W - 1 - c / 2 := by omega
    rw [h1, ih] at e1
    have h2 : c % 2 = 0 ∨ c % 2 = 1 := by omega
    rcases h2 with h2 | h2
    · have h3 : (2 ^ W * 2 - 1 - c) % 2 = 1 := by omega
      rw [h2, h3] at e2
      simp at e2
      omega
    · have h3 : (2 ^ W * 2 - 1 - c) % 2 = 0 := by omega
      rw [h2, h3] at e2
      simp at e2
      omega

theorem low_ones : ∀ (W a : Nat), 1 ≤ a → a < 2 ^ W → (2 ^ W - 1 - a) &&& (a - 1) = 2 ^ (ctzR W a) - 1
  | 0, a, h1, h2 => by simp at h2; omega
  | W + 1, a, h1, h2 => by
    have hp := Nat.two_pow_pos W
    rw [Nat.pow_succ] at h2 ⊢
    have e1 := and_halves (2 ^ W * 2 - 1 - a) (a - 1)
    have e2 := and_low (2 ^ W * 2 - 1 - a) (a - 1)
    have h3 : (2 ^ W * 2 - 1 - a) / 2 = 2 ^ W - 1 - a / 2 := by omega
    rw [ctzR]
    split
    · rename_i h
      have h4 : (a - 1) / 2 = a / 2 := by omega
      have h5 : (a - 1) % 2 = 0 := by omega
      rw [h3, h4, and_not_self W (a / 2) (by omega)] at e1
      rw [h5, Nat.and_zero] at e2
      simp
      omega
    · rename_i h
      have h4 : (a - 1) / 2 = a / 2 - 1 := by omega
      have h5 : (a - 1) % 2 = 1 := by omega
      have h6 : (2 ^ W * 2 - 1 - a) % 2 = 1 := by omega
      rw [h3, h4, low_ones W (a / 2) (by omega) (by omega)] at e1
      rw [h5, h6] at e2
      have e3 : ((2 ^ W * 2 - 1 - a) &&& (a - 1)) % 2 = 1 := e2
      have hq := Nat.two_pow_pos (ctzR W (a / 2))
      rw [Nat.add_comm 1, Nat.pow_succ]
      omega

/-- The 0 bits below the lowest 1 bit, as 1 bits, cut. -/
theorem ctz_bits {n a : Nat} (hn : Okn n) (ha : a < 2 ^ n) : ((18446744073709551615 - a) &&& ((a + 18446744073709551615) % 18446744073709551616)) % 2 ^ n = 2 ^ (ctzR n a) - 1 := by
  have hn8 := hn.le
  obtain ⟨h1, h2, h3, h4⟩ := pow_lt64 hn
  by_cases h0 : a = 0
  · subst h0
    rw [ctzR_zero]
    rcases hn with rfl | rfl | rfl | rfl <;> decide
  · have e : (a + 18446744073709551615) % 18446744073709551616 = a - 1 := by omega
    have hl := low_ones 64 a (by omega) (by omega)
    have hc := ctzR_le n a
    have hle : 2 ^ ctzR n a ≤ 2 ^ n := Nat.pow_le_pow_right (by decide) hc
    have hq := Nat.two_pow_pos (ctzR n a)
    rw [e, show (18446744073709551615 : Nat) = 2 ^ 64 - 1 from rfl, hl, ctzR_same n 64 a hn8.2 (by omega) ha]
    exact Nat.mod_eq_of_lt (by omega)

/-- The bits the other way round. -/
def revR : Nat → Nat → Nat
  | 0, _ => 0
  | k + 1, a => 2 * revR k a + a / 2 ^ k % 2

theorem revR_lt : ∀ k a : Nat, revR k a < 2 ^ k
  | 0, _ => by simp [revR]
  | k + 1, a => by
    have := revR_lt k a
    rw [revR, Nat.pow_succ]
    omega

theorem ctz_rev : ∀ k a : Nat, ctzR k (revR k a) = clzR k a
  | 0, _ => rfl
  | k + 1, a => by
    have ih := ctz_rev k a
    rw [revR, ctzR, clzR, Nat.testBit_eq_decide_div_mod_eq]
    have h1 : (2 * revR k a + a / 2 ^ k % 2) % 2 = a / 2 ^ k % 2 := by omega
    have h2 : (2 * revR k a + a / 2 ^ k % 2) / 2 = revR k a := by omega
    rw [h1, h2, ih]
    simp

theorem clzR_le : ∀ k a : Nat, clzR k a ≤ k
  | 0, _ => Nat.le_refl _
  | k + 1, a => by
    rw [clzR]
    split
    · omega
    · have := clzR_le k a
      omega

end Go.Proofs.YtibfpjnfkknacaaGreatDoor
set_option linter.unusedSimpArgs false
set_option linter.unusedVariables false
namespace Go.Proofs.YtibfpjnfkknacaaGreatDoor
open Go.RowKit

set_option maxHeartbeats 800000 in
theorem count_any (a : Nat) (ha : a < 18446744073709551616) (w : World) :
    Calls Tryz.prog 140 #[.int .u64 a] w fun e w' => e = .returned (.int .u64 (pop a : Nat)) ∧ w = w' := by
  have hp : pop a ≤ 64 := pop_le 64 a ha
  have HP := hid (show pop a ≤ 64 ∧ a < 18446744073709551616 from ⟨hp, ha⟩)
  clear hp ha
  go_enter Tryz.func140, Tryz.ntmps140
  go_wp2
  go_loop [0, 3] (fun va vn => ∃ x c : Nat, va = .int .u64 (x : Int) ∧ vn = .int .u64 (c : Int) ∧ Hid (pop x + c = pop a ∧ x < 18446744073709551616)) (fun va _ => pop (intOf va).toNat)
  case atStart => exact ⟨a, 0, rfl, rfl, hid ⟨by omega, HP.out.2⟩⟩
  case round =>
    obtain ⟨x, c, rfl, rfl, H⟩ := hrel
    by_cases hx : x = 0
    · subst hx
      have e : c = pop a := by have := H.out.1; rw [pop_zero] at this; omega
      subst e
      clear H
      go_wp2
      go_ret
      exact ⟨rfl, rfl⟩
    · have hne : ((x : Int) != 0) = true := by simp; omega
      have hne2 : ((x : Int) == 0) = false := by simp; omega
      have h1 := H.out.2
      have h2 := pop_less hx
      have h3 := H.out.1
      have h4 := HP.out.1
      have hw : IntKind.u64.wrap ((x : Int) - 1) = ((x - 1 : Nat) : Int) := by rw [IntKind.wrap_u64]; omega
      have hand := bits_and_u64_nat x (x - 1) h1 (by omega)
      have hc : IntKind.u64.wrap ((c : Int) + 1) = ((c + 1 : Nat) : Int) := by rw [IntKind.wrap_u64]; omega
      have hlt : x &&& (x - 1) < 18446744073709551616 := Nat.and_lt_two_pow (n := 64) _ (by omega)
      obtain ⟨y, hy⟩ : ∃ y : Nat, y = x - 1 := ⟨_, rfl⟩
      obtain ⟨z, hz⟩ : ∃ z : Nat, z = x &&& (x - 1) := ⟨_, rfl⟩
      obtain ⟨d, hd⟩ : ∃ d : Nat, d = c + 1 := ⟨_, rfl⟩
      rw [← hz] at h2 hand hlt
      rw [← hy] at hw hand
      rw [← hd] at hc
      have H2 := hid (show pop z + 1 = pop x ∧ pop z + d = pop a ∧ z < 18446744073709551616 from ⟨h2, by omega, hlt⟩)
      clear h1 h2 h3 h4 hlt hy hz hd H hx
      go_wp2
      go_round
      case rel => exact ⟨z, d, rfl, rfl, hid ⟨H2.out.2.1, H2.out.2.2⟩⟩
      case measure =>
        have := H2.out.1
        simp [intOf]
        omega

set_option maxHeartbeats 800000 in
theorem reversed_any (n : Nat) (hn : Okn n) (a : Nat) (ha : a < 18446744073709551616) (w : World) :
    Calls Tryz.prog 139 #[.int .i64 n, .int .u64 a] w fun e w' => e = .returned (.int .u64 (revR n a : Nat)) ∧ w = w' := by
  have hn8 := hn.le
  have HA := hid ha
  clear ha hn
  go_enter Tryz.func139, Tryz.ntmps139
  go_wp2
  go_loop [1, 5, 7] (fun va vo vk => ∃ k : Nat, k ≤ n ∧ vk = .int .i64 k ∧ va = .int .u64 ((a / 2 ^ k : Nat) : Int) ∧ vo = .int .u64 ((revR k a : Nat) : Int)) (fun _ _ vk => n - (intOf vk).toNat)
  case atStart => exact ⟨0, Nat.zero_le _, rfl, by simp, rfl⟩
  case round =>
    obtain ⟨k, hk, rfl, rfl, rfl⟩ := hrel
    by_cases hlt : k < n
    · have hr := revR_lt k a
      have hr64 : 2 * 2 ^ k ≤ 18446744073709551616 := by
        have : 2 ^ (k + 1) ≤ 2 ^ 64 := Nat.pow_le_pow_right (by decide) (by omega)
        rw [Nat.pow_succ] at this
        omega
      have hd : a / 2 ^ k ≤ a := Nat.div_le_self _ _
      have ha := HA.out
      have hx : a / 2 ^ (k + 1) = a / 2 ^ k / 2 := by rw [Nat.pow_succ, Nat.div_div_eq_div_mul]
      have hs : revR (k + 1) a = 2 * revR k a + a / 2 ^ k % 2 := rfl
      obtain ⟨x, hxe⟩ : ∃ x : Nat, x = a / 2 ^ k := ⟨_, rfl⟩
      obtain ⟨r, hre⟩ : ∃ r : Nat, r = revR k a := ⟨_, rfl⟩
      rw [← hxe] at hd hx hs ⊢
      rw [← hre] at hr hs ⊢
      have hw : IntKind.u64.wrap ((r : Int) * 2) = ((2 * r : Nat) : Int) := by rw [IntKind.wrap_u64]; omega
      have hand : bits .and .u64 (x : Int) 1 = ((x % 2 : Nat) : Int) := by
        have := bits_and_u64_nat x 1 (by omega) (by decide)
        rw [Nat.and_one_is_mod] at this
        exact this
      have hor : bits .or .u64 ((2 * r : Nat) : Int) ((x % 2 : Nat) : Int) = ((2 * r + x % 2 : Nat) : Int) := by
        rw [bits_or_u64_nat _ _ (by omega) (by omega)]
        have := Nat.two_pow_add_eq_or_of_lt (i := 1) (b := x % 2) (by omega) r
        simp at this
        rw [← this]
      obtain ⟨t, ht⟩ : ∃ t : Nat, t = 2 * r := ⟨_, rfl⟩
      obtain ⟨b, hb⟩ : ∃ b : Nat, b = x % 2 := ⟨_, rfl⟩
      obtain ⟨q, hq⟩ : ∃ q : Nat, q = 2 * r + x % 2 := ⟨_, rfl⟩
      rw [← hq, ← ht, ← hb] at hor
      rw [← ht] at hw
      rw [← hb] at hand
      rw [← hq] at hs
      have hdiv : (x : Int) / 2 = ((x / 2 : Nat) : Int) := by simp
      rw [← hx] at hdiv
      have HS := hid hs
      clear hr hr64 hd ha hx hs hxe hre ht hb hq
      go_wp2
      go_round
      case rel => exact ⟨k + 1, by omega, by go_num, rfl, by rw [HS.out]⟩
      case measure => simp [intOf]; omega
    · obtain rfl : k = n := by omega
      go_wp2
      go_ret
      exact ⟨rfl, rfl⟩

end Go.Proofs.YtibfpjnfkknacaaGreatDoor
