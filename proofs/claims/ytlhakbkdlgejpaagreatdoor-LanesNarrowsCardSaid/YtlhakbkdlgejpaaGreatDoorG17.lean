/-
  LNar: merged, what the law does not reach left out (each text says what it holds where it lies in wip). No condition.
-/
import Derived.Test.YtlhakbkdlgejpaaGreatDoorG16
import Derived.Test.YtlhakbkdlgejpaaGreatDoorG06
set_option linter.unusedSimpArgs false
set_option linter.unusedVariables false
set_option maxRecDepth 100000
namespace Go.Proofs.YtlhakbkdlgejpaaGreatDoor
open Go.RowKit
/-- A number held between two. -/
def clampZ (z lo hi : Int) : Int := min (max z lo) hi
theorem clamp_nat (z g : Int) (h0 : 0 ≤ g) (hg : g < 65536) : clampZ z 0 g = ((toN 64 (clampZ z 0 g) : Nat) : Int) := by
 unfold clampZ toN
 omega
theorem sgn_range {n : Nat} (hn : n = 16 ∨ n = 32) (x : Nat) : -2147483648 ≤ sg n (x % 2 ^ n) ∧ sg n (x % 2 ^ n) ≤ 2147483647 := by
 unfold sg
 rcases hn with rfl | rfl
 ·have := Nat.mod_lt x (show 0 < 2 ^ 16 by decide)
  split <;> omega
 ·have := Nat.mod_lt x (show 0 < 2 ^ 32 by decide)
  split <;> omega
theorem back64 {z : Int} (h0 : -2147483648 ≤ z) (h1 : z ≤ 2147483647) : IntKind.i64.wrap ((toN 64 z : Nat) : Int) = z := by
 rw [IntKind.wrap_i64]
 unfold toN
 omega
set_option maxHeartbeats 4000000 in
theorem narrowed_8_s (vb : List UInt8) (ff tf : Bool) (vl : Value) (m : Nat) (hm : m ≤ 32) (F : Nat → Nat) (hF : ∀ i, F i < 18446744073709551616) (w : World) (hl : RowAt w vl m F) :
  Calls Tryz.prog 68 #[insV vb ff 16 tf 8 true, vl] w (LPost w m (fun i => toN 64 (clampZ (sg 16 (F i % 2 ^ 16)) (-128) 127))) := by
 obtain ⟨i0, hi0, hz0, hz1, hz2⟩ := info_parts info22
 unfold insV
 generalize str vb = s
 have HE : ∀ W, Hid (Calls Tryz.prog 77 #[.int .i64 16, .bool true] W fun e w' => (∃ lb, e = .returned (.func (.func 120) #[] lb) ∧ Does1 120 lb (extF 16 true) w') ∧ Below W.heap.size W w') := fun W => hid (ext_says 16 (by right; left; rfl) true W)
 have k1 : IntKind.i64.wrap 256 = 256 := rfl
 have k2 : IntKind.i64.wrap 255 = 255 := rfl
 have eg : ∀ args w, (callFunc 120 args).run Tryz.prog w = .ok (.enter 120 args) w := enters_of Tryz.func120 (by kernel_rfl) rfl
 obtain ⟨R, hR⟩ : ∃ R : Nat → Nat, R = fun i => toN 64 (clampZ (sg 16 (F i % 2 ^ 16)) (-128) 127) := ⟨_, rfl⟩
 rw [← hR]
 have HR := hid (fun i : Nat => congrFun hR i)
 have HF := hid hF
 have HL := hid hl
 clear hR hF hl
 go_enter Tryz.func68, Tryz.ntmps68
 go_upto_region 1 with fail
 have hS : Below w.heap.size w (w.alloc (.cells #[.string s, .bool ff, .int .i64 16, .bool tf, .int .i64 8, .bool true] 50)).drew ∧ CA w.heap.size #[.string s, .bool ff, .int .i64 16, .bool tf, .int .i64 8, .bool true] 50 (w.alloc (.cells #[.string s, .bool ff, .int .i64 16, .bool tf, .int .i64 8, .bool true] 50)).drew := ⟨((Below.refl _ w).alloc (Nat.le_refl _) _).drew, (CA.new w _ 50).drew⟩
 refine wp_region_held_drew (S := fun W => Below w.heap.size w W ∧ CA w.heap.size #[.string s, .bool ff, .int .i64 16, .bool tf, .int .i64 8, .bool true] 50 W) (by kernel_rfl) hS (fun _ => ?_)
 generalize (w.alloc (.cells #[.string s, .bool ff, .int .i64 16, .bool tf, .int .i64 8, .bool true] 50)).drew = W at *
 refine wpAnyH_take (oi := ⟨_, _, _, _, _, _⟩) (i := 5) (v := .int .i64 0) rfl (by kernel_rfl) (by kernel_rfl) (by kernel_rfl) (fun _ _ _ h => h) (Or.inl ⟨by rfl, ?_⟩) (by assumption) ?_
 ·(intro W hSw; have x0 := hSw.2.at (k := 0) (v := .string s) rfl; have x1 := hSw.2.at (k := 1) (v := .bool ff) rfl; have x2 := hSw.2.at (k := 2) (v := .int .i64 16) rfl; have x3 := hSw.2.at (k := 3) (v := .bool tf) rfl; have x4 := hSw.2.at (k := 4) (v := .int .i64 8) rfl; have x5 := hSw.2.at (k := 5) (v := .bool true) rfl; go_simp; try (with_reducible rfl))
 try simp only [Act.put, List.setIfInBounds_toArray, List.set_cons_zero, List.set_cons_succ]
 refine wpAnyH_take (oi := ⟨_, _, _, _, _, _⟩) (i := 0) (v := .pointer (some ⟨w.heap.size, 3, none⟩)) rfl (by kernel_rfl) (by kernel_rfl) (by kernel_rfl) (fun _ _ _ h => h) (Or.inl ⟨by rfl, ?_⟩) (by assumption) ?_
 ·(intro W hSw; have x0 := hSw.2.at (k := 0) (v := .string s) rfl; have x1 := hSw.2.at (k := 1) (v := .bool ff) rfl; have x2 := hSw.2.at (k := 2) (v := .int .i64 16) rfl; have x3 := hSw.2.at (k := 3) (v := .bool tf) rfl; have x4 := hSw.2.at (k := 4) (v := .int .i64 8) rfl; have x5 := hSw.2.at (k := 5) (v := .bool true) rfl; go_simp; try (with_reducible rfl))
 try simp only [Act.put, List.setIfInBounds_toArray, List.set_cons_zero, List.set_cons_succ]
 refine wpAnyH_take (oi := ⟨_, _, _, _, _, _⟩) (i := 1) (v := .pointer (some ⟨w.heap.size, 4, none⟩)) rfl (by kernel_rfl) (by kernel_rfl) (by kernel_rfl) (fun _ _ _ h => h) (Or.inl ⟨by rfl, ?_⟩) (by assumption) ?_
 ·(intro W hSw; have x0 := hSw.2.at (k := 0) (v := .string s) rfl; have x1 := hSw.2.at (k := 1) (v := .bool ff) rfl; have x2 := hSw.2.at (k := 2) (v := .int .i64 16) rfl; have x3 := hSw.2.at (k := 3) (v := .bool tf) rfl; have x4 := hSw.2.at (k := 4) (v := .int .i64 8) rfl; have x5 := hSw.2.at (k := 5) (v := .bool true) rfl; go_simp; try (with_reducible rfl))
 try simp only [Act.put, List.setIfInBounds_toArray, List.set_cons_zero, List.set_cons_succ]
 refine wpAnyH_take (oi := ⟨_, _, _, _, _, _⟩) (i := 2) (v := .int .i64 8) rfl (by kernel_rfl) (by kernel_rfl) (by kernel_rfl) (fun _ _ _ h => h) (Or.inl ⟨by rfl, ?_⟩) (by assumption) ?_
 ·(intro W hSw; have x0 := hSw.2.at (k := 0) (v := .string s) rfl; have x1 := hSw.2.at (k := 1) (v := .bool ff) rfl; have x2 := hSw.2.at (k := 2) (v := .int .i64 16) rfl; have x3 := hSw.2.at (k := 3) (v := .bool tf) rfl; have x4 := hSw.2.at (k := 4) (v := .int .i64 8) rfl; have x5 := hSw.2.at (k := 5) (v := .bool true) rfl; go_simp; try (with_reducible rfl))
 try simp only [Act.put, List.setIfInBounds_toArray, List.set_cons_zero, List.set_cons_succ]
 refine wpAnyH_take (oi := ⟨_, _, _, _, _, _⟩) (i := 3) (v := .int .i64 256) rfl (by kernel_rfl) (by kernel_rfl) (by kernel_rfl) (fun _ _ _ h => h) (Or.inl ⟨by rfl, ?_⟩) (by assumption) ?_
 ·(intro W hSw; have x0 := hSw.2.at (k := 0) (v := .string s) rfl; have x1 := hSw.2.at (k := 1) (v := .bool ff) rfl; have x2 := hSw.2.at (k := 2) (v := .int .i64 16) rfl; have x3 := hSw.2.at (k := 3) (v := .bool tf) rfl; have x4 := hSw.2.at (k := 4) (v := .int .i64 8) rfl; have x5 := hSw.2.at (k := 5) (v := .bool true) rfl; go_simp; try (with_reducible rfl))
 try simp only [Act.put, List.setIfInBounds_toArray, List.set_cons_zero, List.set_cons_succ]
 refine wpAnyH_take (oi := ⟨_, _, _, _, _, _⟩) (i := 4) (v := .int .i64 255) rfl (by kernel_rfl) (by kernel_rfl) (by kernel_rfl) (fun _ _ _ h => h) (Or.inl ⟨by rfl, ?_⟩) (by assumption) ?_
 ·(intro W hSw; have x0 := hSw.2.at (k := 0) (v := .string s) rfl; have x1 := hSw.2.at (k := 1) (v := .bool ff) rfl; have x2 := hSw.2.at (k := 2) (v := .int .i64 16) rfl; have x3 := hSw.2.at (k := 3) (v := .bool tf) rfl; have x4 := hSw.2.at (k := 4) (v := .int .i64 8) rfl; have x5 := hSw.2.at (k := 5) (v := .bool true) rfl; go_simp; try (with_reducible rfl))
 try simp only [Act.put, List.setIfInBounds_toArray, List.set_cons_zero, List.set_cons_succ]
 refine wpAnyH_take (oi := ⟨_, _, _, _, _, _⟩) (i := 6) (v := .int .i64 255) rfl (by kernel_rfl) (by kernel_rfl) (by kernel_rfl) (fun _ _ _ h => h) (Or.inl ⟨by rfl, ?_⟩) (by assumption) ?_
 ·(intro W hSw; have x0 := hSw.2.at (k := 0) (v := .string s) rfl; have x1 := hSw.2.at (k := 1) (v := .bool ff) rfl; have x2 := hSw.2.at (k := 2) (v := .int .i64 16) rfl; have x3 := hSw.2.at (k := 3) (v := .bool tf) rfl; have x4 := hSw.2.at (k := 4) (v := .int .i64 8) rfl; have x5 := hSw.2.at (k := 5) (v := .bool true) rfl; go_simp; try (with_reducible rfl))
 try simp only [Act.put, List.setIfInBounds_toArray, List.set_cons_zero, List.set_cons_succ]
 refine wpAnyH_done (by kernel_rfl) ?_ _
 have HB0 := hid hS.1
 have HX0 := hid hS.2
 have x0 := hS.2.at (k := 0) (v := .string s) rfl
 have x2 := hS.2.at (k := 2) (v := .int .i64 16) rfl
 have x4 := hS.2.at (k := 4) (v := .int .i64 8) rfl
 have x5 := hS.2.at (k := 5) (v := .bool true) rfl
 clear hS
 go_upto_region 6 with (go_at_call 77; (with_reducible refine (HE _).out.mono ?_); rintro e w2 ⟨⟨lb, rfl, hd⟩, hb2⟩; have HD2 := hid hd; have HB2 := hid (HB0.out.trans (hb2.mono HB0.out.size)); clear hd hb2)
 obtain ⟨gl, ol, cl, rfl, hgl, hcl, hatl⟩ := HL.out
 have HA := hid hatl
 clear hatl x0 x2 x4 x5 HX0 HB0
 go_wp2_with (at_make; refine wpList_make_full _ rfl _ _ 40 rfl w2.heap.size 22 i0 (.int .u64 0) 1 Tryz.underlying40 hi0 hz0 hz1 .i64 .i64 _ _ m rfl rfl rfl rfl (by rw [hz2]; omega) (by unfold maxLen; omega) (Nat.le_refl _) ?_; intro w3 hown3 hgrow3)
 have HS3 := hid (EInv.start (F := R) hown3 hgrow3)
 clear hown3 hgrow3
 go_loopw [32] (fun vi wr => ∃ i : Nat, i ≤ m ∧ vi = .int .i64 i ∧ Hid (EInv w2 w2.heap.size m R i wr)) (fun vi _ => m - (intOf vi).toNat)
 case atStart => exact ⟨0, Nat.zero_le _, rfl, HS3⟩
 case round =>
  obtain ⟨i, hin, rfl, HI⟩ := hrel
  by_cases hlt : i < m
  ·have HLT := hid hlt
   have hk := (HI.out.2.1.cell (p := ⟨gl, ol + i, none⟩) (Nat.lt_of_lt_of_le hgl HB2.out.size)).trans ((HB2.out.cell (p := ⟨gl, ol + i, none⟩) hgl).trans (HA.out i hlt).1)
   have hf := HD2.out.later HI.out.2.1 wr (F i) (Below.refl _ _) (HF.out i)
   have hzz : extF 16 true (F i) = toN 64 (sg 16 (F i % 2 ^ 16)) := rfl
   have hbk := back64 (sgn_range (.inl rfl) (F i)).1 (sgn_range (.inl rfl) (F i)).2
   have hr := HR.out i
   rw [hzz] at hf
   have HFC := hid hf
   have HEQ := hid hr
   clear hf hzz hr
   generalize toN 64 (sg 16 (F i % 2 ^ 16)) = y at *
   generalize sg 16 (F i % 2 ^ 16) = z at *
   have HY := hid (u64_toN (clampZ z (-128) 127))
   clear HF HR HL HE HB2 HA
   go_upto_region 10 with fail
   clear hk
   go_wp2_with (go_at_fn 120; (with_reducible refine HFC.out.mono ?_); rintro e w3 ⟨rfl, hb3⟩; have HJ := hid (HI.out.call hb3); obtain ⟨c0, c1⟩ := HJ.out.cells hlt; have HN := hid HJ.out.next; clear HI HFC HJ)
   have hv : (if 127 < (if z < -128 then -128 else z) then 127 else if z < -128 then -128 else z) = clampZ z (-128) 127 := by
    unfold clampZ
    split <;> split <;> omega
   rw [hv, HY.out, ← HEQ.out]
   exact ⟨⟨i + 1, hlt, rfl, HN⟩, by simp only [intOf]; omega⟩
  ·have hE : i = m := by omega
   subst hE
   have HX := hid (HI.out.end (Nat.le_refl _))
   have HB2' := hid HB2.out
   clear HB2 HF HR HL HE HA
   go_wp2
   go_ret
   exact ⟨_, rfl, own_mono HX.out.1 HB2'.out.size, HB2'.out.trans (HX.out.2.mono HB2'.out.size)⟩
set_option maxHeartbeats 4000000 in
theorem narrowed_8_u (vb : List UInt8) (ff tf : Bool) (vl : Value) (m : Nat) (hm : m ≤ 32) (F : Nat → Nat) (hF : ∀ i, F i < 18446744073709551616) (w : World) (hl : RowAt w vl m F) :
  Calls Tryz.prog 68 #[insV vb ff 16 tf 8 false, vl] w (LPost w m (fun i => toN 64 (clampZ (sg 16 (F i % 2 ^ 16)) (0) 255))) := by
 obtain ⟨i0, hi0, hz0, hz1, hz2⟩ := info_parts info22
 unfold insV
 generalize str vb = s
 have HE : ∀ W, Hid (Calls Tryz.prog 77 #[.int .i64 16, .bool true] W fun e w' => (∃ lb, e = .returned (.func (.func 120) #[] lb) ∧ Does1 120 lb (extF 16 true) w') ∧ Below W.heap.size W w') := fun W => hid (ext_says 16 (by right; left; rfl) true W)
 have k1 : IntKind.i64.wrap 256 = 256 := rfl
 have k2 : IntKind.i64.wrap 255 = 255 := rfl
 have eg : ∀ args w, (callFunc 120 args).run Tryz.prog w = .ok (.enter 120 args) w := enters_of Tryz.func120 (by kernel_rfl) rfl
 obtain ⟨R, hR⟩ : ∃ R : Nat → Nat, R = fun i => toN 64 (clampZ (sg 16 (F i % 2 ^ 16)) (0) 255) := ⟨_, rfl⟩
 rw [← hR]
 have HR := hid (fun i : Nat => congrFun hR i)
 have HF := hid hF
 have HL := hid hl
 clear hR hF hl
 go_enter Tryz.func68, Tryz.ntmps68
 go_upto_region 1 with fail
 have hS : Below w.heap.size w (w.alloc (.cells #[.string s, .bool ff, .int .i64 16, .bool tf, .int .i64 8, .bool false] 50)).drew ∧ CA w.heap.size #[.string s, .bool ff, .int .i64 16, .bool tf, .int .i64 8, .bool false] 50 (w.alloc (.cells #[.string s, .bool ff, .int .i64 16, .bool tf, .int .i64 8, .bool false] 50)).drew := ⟨((Below.refl _ w).alloc (Nat.le_refl _) _).drew, (CA.new w _ 50).drew⟩
 refine wp_region_held_drew (S := fun W => Below w.heap.size w W ∧ CA w.heap.size #[.string s, .bool ff, .int .i64 16, .bool tf, .int .i64 8, .bool false] 50 W) (by kernel_rfl) hS (fun _ => ?_)
 generalize (w.alloc (.cells #[.string s, .bool ff, .int .i64 16, .bool tf, .int .i64 8, .bool false] 50)).drew = W at *
 refine wpAnyH_take (oi := ⟨_, _, _, _, _, _⟩) (i := 5) (v := .int .i64 0) rfl (by kernel_rfl) (by kernel_rfl) (by kernel_rfl) (fun _ _ _ h => h) (Or.inl ⟨by rfl, ?_⟩) (by assumption) ?_
 ·(intro W hSw; have x0 := hSw.2.at (k := 0) (v := .string s) rfl; have x1 := hSw.2.at (k := 1) (v := .bool ff) rfl; have x2 := hSw.2.at (k := 2) (v := .int .i64 16) rfl; have x3 := hSw.2.at (k := 3) (v := .bool tf) rfl; have x4 := hSw.2.at (k := 4) (v := .int .i64 8) rfl; have x5 := hSw.2.at (k := 5) (v := .bool false) rfl; go_simp; try (with_reducible rfl))
 try simp only [Act.put, List.setIfInBounds_toArray, List.set_cons_zero, List.set_cons_succ]
 refine wpAnyH_take (oi := ⟨_, _, _, _, _, _⟩) (i := 0) (v := .pointer (some ⟨w.heap.size, 3, none⟩)) rfl (by kernel_rfl) (by kernel_rfl) (by kernel_rfl) (fun _ _ _ h => h) (Or.inl ⟨by rfl, ?_⟩) (by assumption) ?_
 ·(intro W hSw; have x0 := hSw.2.at (k := 0) (v := .string s) rfl; have x1 := hSw.2.at (k := 1) (v := .bool ff) rfl; have x2 := hSw.2.at (k := 2) (v := .int .i64 16) rfl; have x3 := hSw.2.at (k := 3) (v := .bool tf) rfl; have x4 := hSw.2.at (k := 4) (v := .int .i64 8) rfl; have x5 := hSw.2.at (k := 5) (v := .bool false) rfl; go_simp; try (with_reducible rfl))
 try simp only [Act.put, List.setIfInBounds_toArray, List.set_cons_zero, List.set_cons_succ]
 refine wpAnyH_take (oi := ⟨_, _, _, _, _, _⟩) (i := 1) (v := .pointer (some ⟨w.heap.size, 4, none⟩)) rfl (by kernel_rfl) (by kernel_rfl) (by kernel_rfl) (fun _ _ _ h => h) (Or.inl ⟨by rfl, ?_⟩) (by assumption) ?_
 ·(intro W hSw; have x0 := hSw.2.at (k := 0) (v := .string s) rfl; have x1 := hSw.2.at (k := 1) (v := .bool ff) rfl; have x2 := hSw.2.at (k := 2) (v := .int .i64 16) rfl; have x3 := hSw.2.at (k := 3) (v := .bool tf) rfl; have x4 := hSw.2.at (k := 4) (v := .int .i64 8) rfl; have x5 := hSw.2.at (k := 5) (v := .bool false) rfl; go_simp; try (with_reducible rfl))
 try simp only [Act.put, List.setIfInBounds_toArray, List.set_cons_zero, List.set_cons_succ]
 refine wpAnyH_take (oi := ⟨_, _, _, _, _, _⟩) (i := 2) (v := .int .i64 8) rfl (by kernel_rfl) (by kernel_rfl) (by kernel_rfl) (fun _ _ _ h => h) (Or.inl ⟨by rfl, ?_⟩) (by assumption) ?_
 ·(intro W hSw; have x0 := hSw.2.at (k := 0) (v := .string s) rfl; have x1 := hSw.2.at (k := 1) (v := .bool ff) rfl; have x2 := hSw.2.at (k := 2) (v := .int .i64 16) rfl; have x3 := hSw.2.at (k := 3) (v := .bool tf) rfl; have x4 := hSw.2.at (k := 4) (v := .int .i64 8) rfl; have x5 := hSw.2.at (k := 5) (v := .bool false) rfl; go_simp; try (with_reducible rfl))
 try simp only [Act.put, List.setIfInBounds_toArray, List.set_cons_zero, List.set_cons_succ]
 refine wpAnyH_take (oi := ⟨_, _, _, _, _, _⟩) (i := 3) (v := .int .i64 256) rfl (by kernel_rfl) (by kernel_rfl) (by kernel_rfl) (fun _ _ _ h => h) (Or.inl ⟨by rfl, ?_⟩) (by assumption) ?_
 ·(intro W hSw; have x0 := hSw.2.at (k := 0) (v := .string s) rfl; have x1 := hSw.2.at (k := 1) (v := .bool ff) rfl; have x2 := hSw.2.at (k := 2) (v := .int .i64 16) rfl; have x3 := hSw.2.at (k := 3) (v := .bool tf) rfl; have x4 := hSw.2.at (k := 4) (v := .int .i64 8) rfl; have x5 := hSw.2.at (k := 5) (v := .bool false) rfl; go_simp; try (with_reducible rfl))
 try simp only [Act.put, List.setIfInBounds_toArray, List.set_cons_zero, List.set_cons_succ]
 refine wpAnyH_take (oi := ⟨_, _, _, _, _, _⟩) (i := 4) (v := .int .i64 255) rfl (by kernel_rfl) (by kernel_rfl) (by kernel_rfl) (fun _ _ _ h => h) (Or.inl ⟨by rfl, ?_⟩) (by assumption) ?_
 ·(intro W hSw; have x0 := hSw.2.at (k := 0) (v := .string s) rfl; have x1 := hSw.2.at (k := 1) (v := .bool ff) rfl; have x2 := hSw.2.at (k := 2) (v := .int .i64 16) rfl; have x3 := hSw.2.at (k := 3) (v := .bool tf) rfl; have x4 := hSw.2.at (k := 4) (v := .int .i64 8) rfl; have x5 := hSw.2.at (k := 5) (v := .bool false) rfl; go_simp; try (with_reducible rfl))
 try simp only [Act.put, List.setIfInBounds_toArray, List.set_cons_zero, List.set_cons_succ]
 refine wpAnyH_take (oi := ⟨_, _, _, _, _, _⟩) (i := 6) (v := .int .i64 255) rfl (by kernel_rfl) (by kernel_rfl) (by kernel_rfl) (fun _ _ _ h => h) (Or.inl ⟨by rfl, ?_⟩) (by assumption) ?_
 ·(intro W hSw; have x0 := hSw.2.at (k := 0) (v := .string s) rfl; have x1 := hSw.2.at (k := 1) (v := .bool ff) rfl; have x2 := hSw.2.at (k := 2) (v := .int .i64 16) rfl; have x3 := hSw.2.at (k := 3) (v := .bool tf) rfl; have x4 := hSw.2.at (k := 4) (v := .int .i64 8) rfl; have x5 := hSw.2.at (k := 5) (v := .bool false) rfl; go_simp; try (with_reducible rfl))
 try simp only [Act.put, List.setIfInBounds_toArray, List.set_cons_zero, List.set_cons_succ]
 refine wpAnyH_done (by kernel_rfl) ?_ _
 have HB0 := hid hS.1
 have HX0 := hid hS.2
 have x0 := hS.2.at (k := 0) (v := .string s) rfl
 have x2 := hS.2.at (k := 2) (v := .int .i64 16) rfl
 have x4 := hS.2.at (k := 4) (v := .int .i64 8) rfl
 have x5 := hS.2.at (k := 5) (v := .bool false) rfl
 clear hS
 go_upto_region 6 with (go_at_call 77; (with_reducible refine (HE _).out.mono ?_); rintro e w2 ⟨⟨lb, rfl, hd⟩, hb2⟩; have HD2 := hid hd; have HB2 := hid (HB0.out.trans (hb2.mono HB0.out.size)); clear hd hb2)
 obtain ⟨gl, ol, cl, rfl, hgl, hcl, hatl⟩ := HL.out
 have HA := hid hatl
 clear hatl x0 x2 x4 x5 HX0 HB0
 go_wp2_with (at_make; refine wpList_make_full _ rfl _ _ 40 rfl w2.heap.size 22 i0 (.int .u64 0) 1 Tryz.underlying40 hi0 hz0 hz1 .i64 .i64 _ _ m rfl rfl rfl rfl (by rw [hz2]; omega) (by unfold maxLen; omega) (Nat.le_refl _) ?_; intro w3 hown3 hgrow3)
 have HS3 := hid (EInv.start (F := R) hown3 hgrow3)
 clear hown3 hgrow3
 go_loopw [32] (fun vi wr => ∃ i : Nat, i ≤ m ∧ vi = .int .i64 i ∧ Hid (EInv w2 w2.heap.size m R i wr)) (fun vi _ => m - (intOf vi).toNat)
 case atStart => exact ⟨0, Nat.zero_le _, rfl, HS3⟩
 case round =>
  obtain ⟨i, hin, rfl, HI⟩ := hrel
  by_cases hlt : i < m
  ·have HLT := hid hlt
   have hk := (HI.out.2.1.cell (p := ⟨gl, ol + i, none⟩) (Nat.lt_of_lt_of_le hgl HB2.out.size)).trans ((HB2.out.cell (p := ⟨gl, ol + i, none⟩) hgl).trans (HA.out i hlt).1)
   have hf := HD2.out.later HI.out.2.1 wr (F i) (Below.refl _ _) (HF.out i)
   have hzz : extF 16 true (F i) = toN 64 (sg 16 (F i % 2 ^ 16)) := rfl
   have hbk := back64 (sgn_range (.inl rfl) (F i)).1 (sgn_range (.inl rfl) (F i)).2
   have hr := HR.out i
   rw [hzz] at hf
   have HFC := hid hf
   have HEQ := hid hr
   clear hf hzz hr
   generalize toN 64 (sg 16 (F i % 2 ^ 16)) = y at *
   generalize sg 16 (F i % 2 ^ 16) = z at *
   have HY := hid (clamp_nat z 255 (by omega) (by omega))
   clear HF HR HL HE HB2 HA
   go_upto_region 10 with fail
   clear hk
   go_wp2_with (go_at_fn 120; (with_reducible refine HFC.out.mono ?_); rintro e w3 ⟨rfl, hb3⟩; have HJ := hid (HI.out.call hb3); obtain ⟨c0, c1⟩ := HJ.out.cells hlt; have HN := hid HJ.out.next; clear HI HFC HJ)
   have hv : (if 255 < (if z < 0 then 0 else z) then 255 else if z < 0 then 0 else z) = clampZ z (0) 255 := by
    unfold clampZ
    split <;> split <;> omega
   rw [hv, HY.out, ← HEQ.out]
   exact ⟨⟨i + 1, hlt, rfl, HN⟩, by simp only [intOf]; omega⟩
  ·have hE : i = m := by omega
   subst hE
   have HX := hid (HI.out.end (Nat.le_refl _))
   have HB2' := hid HB2.out
   clear HB2 HF HR HL HE HA
   go_wp2
   go_ret
   exact ⟨_, rfl, own_mono HX.out.1 HB2'.out.size, HB2'.out.trans (HX.out.2.mono HB2'.out.size)⟩
set_option maxHeartbeats 4000000 in
theorem narrowed_16_s (vb : List UInt8) (ff tf : Bool) (vl : Value) (m : Nat) (hm : m ≤ 32) (F : Nat → Nat) (hF : ∀ i, F i < 18446744073709551616) (w : World) (hl : RowAt w vl m F) :
  Calls Tryz.prog 68 #[insV vb ff 32 tf 16 true, vl] w (LPost w m (fun i => toN 64 (clampZ (sg 32 (F i % 2 ^ 32)) (-32768) 32767))) := by
 obtain ⟨i0, hi0, hz0, hz1, hz2⟩ := info_parts info22
 unfold insV
 generalize str vb = s
 have HE : ∀ W, Hid (Calls Tryz.prog 77 #[.int .i64 32, .bool true] W fun e w' => (∃ lb, e = .returned (.func (.func 120) #[] lb) ∧ Does1 120 lb (extF 32 true) w') ∧ Below W.heap.size W w') := fun W => hid (ext_says 32 (by right; right; left; rfl) true W)
 have k1 : IntKind.i64.wrap 65536 = 65536 := rfl
 have k2 : IntKind.i64.wrap 65535 = 65535 := rfl
 have eg : ∀ args w, (callFunc 120 args).run Tryz.prog w = .ok (.enter 120 args) w := enters_of Tryz.func120 (by kernel_rfl) rfl
 obtain ⟨R, hR⟩ : ∃ R : Nat → Nat, R = fun i => toN 64 (clampZ (sg 32 (F i % 2 ^ 32)) (-32768) 32767) := ⟨_, rfl⟩
 rw [← hR]
 have HR := hid (fun i : Nat => congrFun hR i)
 have HF := hid hF
 have HL := hid hl
 clear hR hF hl
 go_enter Tryz.func68, Tryz.ntmps68
 go_upto_region 1 with fail
 have hS : Below w.heap.size w (w.alloc (.cells #[.string s, .bool ff, .int .i64 32, .bool tf, .int .i64 16, .bool true] 50)).drew ∧ CA w.heap.size #[.string s, .bool ff, .int .i64 32, .bool tf, .int .i64 16, .bool true] 50 (w.alloc (.cells #[.string s, .bool ff, .int .i64 32, .bool tf, .int .i64 16, .bool true] 50)).drew := ⟨((Below.refl _ w).alloc (Nat.le_refl _) _).drew, (CA.new w _ 50).drew⟩
 refine wp_region_held_drew (S := fun W => Below w.heap.size w W ∧ CA w.heap.size #[.string s, .bool ff, .int .i64 32, .bool tf, .int .i64 16, .bool true] 50 W) (by kernel_rfl) hS (fun _ => ?_)
 generalize (w.alloc (.cells #[.string s, .bool ff, .int .i64 32, .bool tf, .int .i64 16, .bool true] 50)).drew = W at *
 refine wpAnyH_take (oi := ⟨_, _, _, _, _, _⟩) (i := 5) (v := .int .i64 0) rfl (by kernel_rfl) (by kernel_rfl) (by kernel_rfl) (fun _ _ _ h => h) (Or.inl ⟨by rfl, ?_⟩) (by assumption) ?_
 ·(intro W hSw; have x0 := hSw.2.at (k := 0) (v := .string s) rfl; have x1 := hSw.2.at (k := 1) (v := .bool ff) rfl; have x2 := hSw.2.at (k := 2) (v := .int .i64 32) rfl; have x3 := hSw.2.at (k := 3) (v := .bool tf) rfl; have x4 := hSw.2.at (k := 4) (v := .int .i64 16) rfl; have x5 := hSw.2.at (k := 5) (v := .bool true) rfl; go_simp; try (with_reducible rfl))
 try simp only [Act.put, List.setIfInBounds_toArray, List.set_cons_zero, List.set_cons_succ]
 refine wpAnyH_take (oi := ⟨_, _, _, _, _, _⟩) (i := 0) (v := .pointer (some ⟨w.heap.size, 3, none⟩)) rfl (by kernel_rfl) (by kernel_rfl) (by kernel_rfl) (fun _ _ _ h => h) (Or.inl ⟨by rfl, ?_⟩) (by assumption) ?_
 ·(intro W hSw; have x0 := hSw.2.at (k := 0) (v := .string s) rfl; have x1 := hSw.2.at (k := 1) (v := .bool ff) rfl; have x2 := hSw.2.at (k := 2) (v := .int .i64 32) rfl; have x3 := hSw.2.at (k := 3) (v := .bool tf) rfl; have x4 := hSw.2.at (k := 4) (v := .int .i64 16) rfl; have x5 := hSw.2.at (k := 5) (v := .bool true) rfl; go_simp; try (with_reducible rfl))
 try simp only [Act.put, List.setIfInBounds_toArray, List.set_cons_zero, List.set_cons_succ]
 refine wpAnyH_take (oi := ⟨_, _, _, _, _, _⟩) (i := 1) (v := .pointer (some ⟨w.heap.size, 4, none⟩)) rfl (by kernel_rfl) (by kernel_rfl) (by kernel_rfl) (fun _ _ _ h => h) (Or.inl ⟨by rfl, ?_⟩) (by assumption) ?_
 ·(intro W hSw; have x0 := hSw.2.at (k := 0) (v := .string s) rfl; have x1 := hSw.2.at (k := 1) (v := .bool ff) rfl; have x2 := hSw.2.at (k := 2) (v := .int .i64 32) rfl; have x3 := hSw.2.at (k := 3) (v := .bool tf) rfl; have x4 := hSw.2.at (k := 4) (v := .int .i64 16) rfl; have x5 := hSw.2.at (k := 5) (v := .bool true) rfl; go_simp; try (with_reducible rfl))
 try simp only [Act.put, List.setIfInBounds_toArray, List.set_cons_zero, List.set_cons_succ]
 refine wpAnyH_take (oi := ⟨_, _, _, _, _, _⟩) (i := 2) (v := .int .i64 16) rfl (by kernel_rfl) (by kernel_rfl) (by kernel_rfl) (fun _ _ _ h => h) (Or.inl ⟨by rfl, ?_⟩) (by assumption) ?_
 ·(intro W hSw; have x0 := hSw.2.at (k := 0) (v := .string s) rfl; have x1 := hSw.2.at (k := 1) (v := .bool ff) rfl; have x2 := hSw.2.at (k := 2) (v := .int .i64 32) rfl; have x3 := hSw.2.at (k := 3) (v := .bool tf) rfl; have x4 := hSw.2.at (k := 4) (v := .int .i64 16) rfl; have x5 := hSw.2.at (k := 5) (v := .bool true) rfl; go_simp; try (with_reducible rfl))
 try simp only [Act.put, List.setIfInBounds_toArray, List.set_cons_zero, List.set_cons_succ]
 refine wpAnyH_take (oi := ⟨_, _, _, _, _, _⟩) (i := 3) (v := .int .i64 65536) rfl (by kernel_rfl) (by kernel_rfl) (by kernel_rfl) (fun _ _ _ h => h) (Or.inl ⟨by rfl, ?_⟩) (by assumption) ?_
 ·(intro W hSw; have x0 := hSw.2.at (k := 0) (v := .string s) rfl; have x1 := hSw.2.at (k := 1) (v := .bool ff) rfl; have x2 := hSw.2.at (k := 2) (v := .int .i64 32) rfl; have x3 := hSw.2.at (k := 3) (v := .bool tf) rfl; have x4 := hSw.2.at (k := 4) (v := .int .i64 16) rfl; have x5 := hSw.2.at (k := 5) (v := .bool true) rfl; go_simp; try (with_reducible rfl))
 try simp only [Act.put, List.setIfInBounds_toArray, List.set_cons_zero, List.set_cons_succ]
 refine wpAnyH_take (oi := ⟨_, _, _, _, _, _⟩) (i := 4) (v := .int .i64 65535) rfl (by kernel_rfl) (by kernel_rfl) (by kernel_rfl) (fun _ _ _ h => h) (Or.inl ⟨by rfl, ?_⟩) (by assumption) ?_
 ·(intro W hSw; have x0 := hSw.2.at (k := 0) (v := .string s) rfl; have x1 := hSw.2.at (k := 1) (v := .bool ff) rfl; have x2 := hSw.2.at (k := 2) (v := .int .i64 32) rfl; have x3 := hSw.2.at (k := 3) (v := .bool tf) rfl; have x4 := hSw.2.at (k := 4) (v := .int .i64 16) rfl; have x5 := hSw.2.at (k := 5) (v := .bool true) rfl; go_simp; try (with_reducible rfl))
 try simp only [Act.put, List.setIfInBounds_toArray, List.set_cons_zero, List.set_cons_succ]
 refine wpAnyH_take (oi := ⟨_, _, _, _, _, _⟩) (i := 6) (v := .int .i64 65535) rfl (by kernel_rfl) (by kernel_rfl) (by kernel_rfl) (fun _ _ _ h => h) (Or.inl ⟨by rfl, ?_⟩) (by assumption) ?_
 ·(intro W hSw; have x0 := hSw.2.at (k := 0) (v := .string s) rfl; have x1 := hSw.2.at (k := 1) (v := .bool ff) rfl; have x2 := hSw.2.at (k := 2) (v := .int .i64 32) rfl; have x3 := hSw.2.at (k := 3) (v := .bool tf) rfl; have x4 := hSw.2.at (k := 4) (v := .int .i64 16) rfl; have x5 := hSw.2.at (k := 5) (v := .bool true) rfl; go_simp; try (with_reducible rfl))
 try simp only [Act.put, List.setIfInBounds_toArray, List.set_cons_zero, List.set_cons_succ]
 refine wpAnyH_done (by kernel_rfl) ?_ _
 have HB0 := hid hS.1
 have HX0 := hid hS.2
 have x0 := hS.2.at (k := 0) (v := .string s) rfl
 have x2 := hS.2.at (k := 2) (v := .int .i64 32) rfl
 have x4 := hS.2.at (k := 4) (v := .int .i64 16) rfl
 have x5 := hS.2.at (k := 5) (v := .bool true) rfl
 clear hS
 go_upto_region 6 with (go_at_call 77; (with_reducible refine (HE _).out.mono ?_); rintro e w2 ⟨⟨lb, rfl, hd⟩, hb2⟩; have HD2 := hid hd; have HB2 := hid (HB0.out.trans (hb2.mono HB0.out.size)); clear hd hb2)
 obtain ⟨gl, ol, cl, rfl, hgl, hcl, hatl⟩ := HL.out
 have HA := hid hatl
 clear hatl x0 x2 x4 x5 HX0 HB0
 go_wp2_with (at_make; refine wpList_make_full _ rfl _ _ 40 rfl w2.heap.size 22 i0 (.int .u64 0) 1 Tryz.underlying40 hi0 hz0 hz1 .i64 .i64 _ _ m rfl rfl rfl rfl (by rw [hz2]; omega) (by unfold maxLen; omega) (Nat.le_refl _) ?_; intro w3 hown3 hgrow3)
 have HS3 := hid (EInv.start (F := R) hown3 hgrow3)
 clear hown3 hgrow3
 go_loopw [32] (fun vi wr => ∃ i : Nat, i ≤ m ∧ vi = .int .i64 i ∧ Hid (EInv w2 w2.heap.size m R i wr)) (fun vi _ => m - (intOf vi).toNat)
 case atStart => exact ⟨0, Nat.zero_le _, rfl, HS3⟩
 case round =>
  obtain ⟨i, hin, rfl, HI⟩ := hrel
  by_cases hlt : i < m
  ·have HLT := hid hlt
   have hk := (HI.out.2.1.cell (p := ⟨gl, ol + i, none⟩) (Nat.lt_of_lt_of_le hgl HB2.out.size)).trans ((HB2.out.cell (p := ⟨gl, ol + i, none⟩) hgl).trans (HA.out i hlt).1)
   have hf := HD2.out.later HI.out.2.1 wr (F i) (Below.refl _ _) (HF.out i)
   have hzz : extF 32 true (F i) = toN 64 (sg 32 (F i % 2 ^ 32)) := rfl
   have hbk := back64 (sgn_range (.inr rfl) (F i)).1 (sgn_range (.inr rfl) (F i)).2
   have hr := HR.out i
   rw [hzz] at hf
   have HFC := hid hf
   have HEQ := hid hr
   clear hf hzz hr
   generalize toN 64 (sg 32 (F i % 2 ^ 32)) = y at *
   generalize sg 32 (F i % 2 ^ 32) = z at *
   have HY := hid (u64_toN (clampZ z (-32768) 32767))
   clear HF HR HL HE HB2 HA
   go_upto_region 10 with fail
   clear hk
   go_wp2_with (go_at_fn 120; (with_reducible refine HFC.out.mono ?_); rintro e w3 ⟨rfl, hb3⟩; have HJ := hid (HI.out.call hb3); obtain ⟨c0, c1⟩ := HJ.out.cells hlt; have HN := hid HJ.out.next; clear HI HFC HJ)
   have hv : (if 32767 < (if z < -32768 then -32768 else z) then 32767 else if z < -32768 then -32768 else z) = clampZ z (-32768) 32767 := by
    unfold clampZ
    split <;> split <;> omega
   rw [hv, HY.out, ← HEQ.out]
   exact ⟨⟨i + 1, hlt, rfl, HN⟩, by simp only [intOf]; omega⟩
  ·have hE : i = m := by omega
   subst hE
   have HX := hid (HI.out.end (Nat.le_refl _))
   have HB2' := hid HB2.out
   clear HB2 HF HR HL HE HA
   go_wp2
   go_ret
   exact ⟨_, rfl, own_mono HX.out.1 HB2'.out.size, HB2'.out.trans (HX.out.2.mono HB2'.out.size)⟩
set_option maxHeartbeats 4000000 in
theorem narrowed_16_u (vb : List UInt8) (ff tf : Bool) (vl : Value) (m : Nat) (hm : m ≤ 32) (F : Nat → Nat) (hF : ∀ i, F i < 18446744073709551616) (w : World) (hl : RowAt w vl m F) :
  Calls Tryz.prog 68 #[insV vb ff 32 tf 16 false, vl] w (LPost w m (fun i => toN 64 (clampZ (sg 32 (F i % 2 ^ 32)) (0) 65535))) := by
 obtain ⟨i0, hi0, hz0, hz1, hz2⟩ := info_parts info22
 unfold insV
 generalize str vb = s
 have HE : ∀ W, Hid (Calls Tryz.prog 77 #[.int .i64 32, .bool true] W fun e w' => (∃ lb, e = .returned (.func (.func 120) #[] lb) ∧ Does1 120 lb (extF 32 true) w') ∧ Below W.heap.size W w') := fun W => hid (ext_says 32 (by right; right; left; rfl) true W)
 have k1 : IntKind.i64.wrap 65536 = 65536 := rfl
 have k2 : IntKind.i64.wrap 65535 = 65535 := rfl
 have eg : ∀ args w, (callFunc 120 args).run Tryz.prog w = .ok (.enter 120 args) w := enters_of Tryz.func120 (by kernel_rfl) rfl
 obtain ⟨R, hR⟩ : ∃ R : Nat → Nat, R = fun i => toN 64 (clampZ (sg 32 (F i % 2 ^ 32)) (0) 65535) := ⟨_, rfl⟩
 rw [← hR]
 have HR := hid (fun i : Nat => congrFun hR i)
 have HF := hid hF
 have HL := hid hl
 clear hR hF hl
 go_enter Tryz.func68, Tryz.ntmps68
 go_upto_region 1 with fail
 have hS : Below w.heap.size w (w.alloc (.cells #[.string s, .bool ff, .int .i64 32, .bool tf, .int .i64 16, .bool false] 50)).drew ∧ CA w.heap.size #[.string s, .bool ff, .int .i64 32, .bool tf, .int .i64 16, .bool false] 50 (w.alloc (.cells #[.string s, .bool ff, .int .i64 32, .bool tf, .int .i64 16, .bool false] 50)).drew := ⟨((Below.refl _ w).alloc (Nat.le_refl _) _).drew, (CA.new w _ 50).drew⟩
 refine wp_region_held_drew (S := fun W => Below w.heap.size w W ∧ CA w.heap.size #[.string s, .bool ff, .int .i64 32, .bool tf, .int .i64 16, .bool false] 50 W) (by kernel_rfl) hS (fun _ => ?_)
 generalize (w.alloc (.cells #[.string s, .bool ff, .int .i64 32, .bool tf, .int .i64 16, .bool false] 50)).drew = W at *
 refine wpAnyH_take (oi := ⟨_, _, _, _, _, _⟩) (i := 5) (v := .int .i64 0) rfl (by kernel_rfl) (by kernel_rfl) (by kernel_rfl) (fun _ _ _ h => h) (Or.inl ⟨by rfl, ?_⟩) (by assumption) ?_
 ·(intro W hSw; have x0 := hSw.2.at (k := 0) (v := .string s) rfl; have x1 := hSw.2.at (k := 1) (v := .bool ff) rfl; have x2 := hSw.2.at (k := 2) (v := .int .i64 32) rfl; have x3 := hSw.2.at (k := 3) (v := .bool tf) rfl; have x4 := hSw.2.at (k := 4) (v := .int .i64 16) rfl; have x5 := hSw.2.at (k := 5) (v := .bool false) rfl; go_simp; try (with_reducible rfl))
 try simp only [Act.put, List.setIfInBounds_toArray, List.set_cons_zero, List.set_cons_succ]
 refine wpAnyH_take (oi := ⟨_, _, _, _, _, _⟩) (i := 0) (v := .pointer (some ⟨w.heap.size, 3, none⟩)) rfl (by kernel_rfl) (by kernel_rfl) (by kernel_rfl) (fun _ _ _ h => h) (Or.inl ⟨by rfl, ?_⟩) (by assumption) ?_
 ·(intro W hSw; have x0 := hSw.2.at (k := 0) (v := .string s) rfl; have x1 := hSw.2.at (k := 1) (v := .bool ff) rfl; have x2 := hSw.2.at (k := 2) (v := .int .i64 32) rfl; have x3 := hSw.2.at (k := 3) (v := .bool tf) rfl; have x4 := hSw.2.at (k := 4) (v := .int .i64 16) rfl; have x5 := hSw.2.at (k := 5) (v := .bool false) rfl; go_simp; try (with_reducible rfl))
 try simp only [Act.put, List.setIfInBounds_toArray, List.set_cons_zero, List.set_cons_succ]
 refine wpAnyH_take (oi := ⟨_, _, _, _, _, _⟩) (i := 1) (v := .pointer (some ⟨w.heap.size, 4, none⟩)) rfl (by kernel_rfl) (by kernel_rfl) (by kernel_rfl) (fun _ _ _ h => h) (Or.inl ⟨by rfl, ?_⟩) (by assumption) ?_
 ·(intro W hSw; have x0 := hSw.2.at (k := 0) (v := .string s) rfl; have x1 := hSw.2.at (k := 1) (v := .bool ff) rfl; have x2 := hSw.2.at (k := 2) (v := .int .i64 32) rfl; have x3 := hSw.2.at (k := 3) (v := .bool tf) rfl; have x4 := hSw.2.at (k := 4) (v := .int .i64 16) rfl; have x5 := hSw.2.at (k := 5) (v := .bool false) rfl; go_simp; try (with_reducible rfl))
 try simp only [Act.put, List.setIfInBounds_toArray, List.set_cons_zero, List.set_cons_succ]
 refine wpAnyH_take (oi := ⟨_, _, _, _, _, _⟩) (i := 2) (v := .int .i64 16) rfl (by kernel_rfl) (by kernel_rfl) (by kernel_rfl) (fun _ _ _ h => h) (Or.inl ⟨by rfl, ?_⟩) (by assumption) ?_
 ·(intro W hSw; have x0 := hSw.2.at (k := 0) (v := .string s) rfl; have x1 := hSw.2.at (k := 1) (v := .bool ff) rfl; have x2 := hSw.2.at (k := 2) (v := .int .i64 32) rfl; have x3 := hSw.2.at (k := 3) (v := .bool tf) rfl; have x4 := hSw.2.at (k := 4) (v := .int .i64 16) rfl; have x5 := hSw.2.at (k := 5) (v := .bool false) rfl; go_simp; try (with_reducible rfl))
 try simp only [Act.put, List.setIfInBounds_toArray, List.set_cons_zero, List.set_cons_succ]
 refine wpAnyH_take (oi := ⟨_, _, _, _, _, _⟩) (i := 3) (v := .int .i64 65536) rfl (by kernel_rfl) (by kernel_rfl) (by kernel_rfl) (fun _ _ _ h => h) (Or.inl ⟨by rfl, ?_⟩) (by assumption) ?_
 ·(intro W hSw; have x0 := hSw.2.at (k := 0) (v := .string s) rfl; have x1 := hSw.2.at (k := 1) (v := .bool ff) rfl; have x2 := hSw.2.at (k := 2) (v := .int .i64 32) rfl; have x3 := hSw.2.at (k := 3) (v := .bool tf) rfl; have x4 := hSw.2.at (k := 4) (v := .int .i64 16) rfl; have x5 := hSw.2.at (k := 5) (v := .bool false) rfl; go_simp; try (with_reducible rfl))
 try simp only [Act.put, List.setIfInBounds_toArray, List.set_cons_zero, List.set_cons_succ]
 refine wpAnyH_take (oi := ⟨_, _, _, _, _, _⟩) (i := 4) (v := .int .i64 65535) rfl (by kernel_rfl) (by kernel_rfl) (by kernel_rfl) (fun _ _ _ h => h) (Or.inl ⟨by rfl, ?_⟩) (by assumption) ?_
 ·(intro W hSw; have x0 := hSw.2.at (k := 0) (v := .string s) rfl; have x1 := hSw.2.at (k := 1) (v := .bool ff) rfl; have x2 := hSw.2.at (k := 2) (v := .int .i64 32) rfl; have x3 := hSw.2.at (k := 3) (v := .bool tf) rfl; have x4 := hSw.2.at (k := 4) (v := .int .i64 16) rfl; have x5 := hSw.2.at (k := 5) (v := .bool false) rfl; go_simp; try (with_reducible rfl))
 try simp only [Act.put, List.setIfInBounds_toArray, List.set_cons_zero, List.set_cons_succ]
 refine wpAnyH_take (oi := ⟨_, _, _, _, _, _⟩) (i := 6) (v := .int .i64 65535) rfl (by kernel_rfl) (by kernel_rfl) (by kernel_rfl) (fun _ _ _ h => h) (Or.inl ⟨by rfl, ?_⟩) (by assumption) ?_
 ·(intro W hSw; have x0 := hSw.2.at (k := 0) (v := .string s) rfl; have x1 := hSw.2.at (k := 1) (v := .bool ff) rfl; have x2 := hSw.2.at (k := 2) (v := .int .i64 32) rfl; have x3 := hSw.2.at (k := 3) (v := .bool tf) rfl; have x4 := hSw.2.at (k := 4) (v := .int .i64 16) rfl; have x5 := hSw.2.at (k := 5) (v := .bool false) rfl; go_simp; try (with_reducible rfl))
 try simp only [Act.put, List.setIfInBounds_toArray, List.set_cons_zero, List.set_cons_succ]
 refine wpAnyH_done (by kernel_rfl) ?_ _
 have HB0 := hid hS.1
 have HX0 := hid hS.2
 have x0 := hS.2.at (k := 0) (v := .string s) rfl
 have x2 := hS.2.at (k := 2) (v := .int .i64 32) rfl
 have x4 := hS.2.at (k := 4) (v := .int .i64 16) rfl
 have x5 := hS.2.at (k := 5) (v := .bool false) rfl
 clear hS
 go_upto_region 6 with (go_at_call 77; (with_reducible refine (HE _).out.mono ?_); rintro e w2 ⟨⟨lb, rfl, hd⟩, hb2⟩; have HD2 := hid hd; have HB2 := hid (HB0.out.trans (hb2.mono HB0.out.size)); clear hd hb2)
 obtain ⟨gl, ol, cl, rfl, hgl, hcl, hatl⟩ := HL.out
 have HA := hid hatl
 clear hatl x0 x2 x4 x5 HX0 HB0
 go_wp2_with (at_make; refine wpList_make_full _ rfl _ _ 40 rfl w2.heap.size 22 i0 (.int .u64 0) 1 Tryz.underlying40 hi0 hz0 hz1 .i64 .i64 _ _ m rfl rfl rfl rfl (by rw [hz2]; omega) (by unfold maxLen; omega) (Nat.le_refl _) ?_; intro w3 hown3 hgrow3)
 have HS3 := hid (EInv.start (F := R) hown3 hgrow3)
 clear hown3 hgrow3
 go_loopw [32] (fun vi wr => ∃ i : Nat, i ≤ m ∧ vi = .int .i64 i ∧ Hid (EInv w2 w2.heap.size m R i wr)) (fun vi _ => m - (intOf vi).toNat)
 case atStart => exact ⟨0, Nat.zero_le _, rfl, HS3⟩
 case round =>
  obtain ⟨i, hin, rfl, HI⟩ := hrel
  by_cases hlt : i < m
  ·have HLT := hid hlt
   have hk := (HI.out.2.1.cell (p := ⟨gl, ol + i, none⟩) (Nat.lt_of_lt_of_le hgl HB2.out.size)).trans ((HB2.out.cell (p := ⟨gl, ol + i, none⟩) hgl).trans (HA.out i hlt).1)
   have hf := HD2.out.later HI.out.2.1 wr (F i) (Below.refl _ _) (HF.out i)
   have hzz : extF 32 true (F i) = toN 64 (sg 32 (F i % 2 ^ 32)) := rfl
   have hbk := back64 (sgn_range (.inr rfl) (F i)).1 (sgn_range (.inr rfl) (F i)).2
   have hr := HR.out i
   rw [hzz] at hf
   have HFC := hid hf
   have HEQ := hid hr
   clear hf hzz hr
   generalize toN 64 (sg 32 (F i % 2 ^ 32)) = y at *
   generalize sg 32 (F i % 2 ^ 32) = z at *
   have HY := hid (clamp_nat z 65535 (by omega) (by omega))
   clear HF HR HL HE HB2 HA
   go_upto_region 10 with fail
   clear hk
   go_wp2_with (go_at_fn 120; (with_reducible refine HFC.out.mono ?_); rintro e w3 ⟨rfl, hb3⟩; have HJ := hid (HI.out.call hb3); obtain ⟨c0, c1⟩ := HJ.out.cells hlt; have HN := hid HJ.out.next; clear HI HFC HJ)
   have hv : (if 65535 < (if z < 0 then 0 else z) then 65535 else if z < 0 then 0 else z) = clampZ z (0) 65535 := by
    unfold clampZ
    split <;> split <;> omega
   rw [hv, HY.out, ← HEQ.out]
   exact ⟨⟨i + 1, hlt, rfl, HN⟩, by simp only [intOf]; omega⟩
  ·have hE : i = m := by omega
   subst hE
   have HX := hid (HI.out.end (Nat.le_refl _))
   have HB2' := hid HB2.out
   clear HB2 HF HR HL HE HA
   go_wp2
   go_ret
   exact ⟨_, rfl, own_mono HX.out.1 HB2'.out.size, HB2'.out.trans (HX.out.2.mono HB2'.out.size)⟩
end Go.Proofs.YtlhakbkdlgejpaaGreatDoor
