/-
  LProd: merged, what the law does not reach left out (each text says what it holds where it lies in wip). No condition.
-/
import Derived.Test.YtlhakbkdlgejpaaGreatDoorJ06
import Derived.Test.YtlhakbkdlgejpaaGreatDoorJ16
set_option linter.unusedSimpArgs false
set_option linter.unusedVariables false
set_option maxRecDepth 100000
namespace Go.Proofs.YtlhakbkdlgejpaaGreatDoor
open Go.RowKit
theorem prod_enters : Enters Tryz.prog 171 := enters_of Tryz.func171 (by kernel_rfl) rfl
theorem prod_does (w : World) : Does 171 #[] (fun x y => x * y % 18446744073709551616) w := fun W x y hb hx hy => by
 have e : IntKind.u64.wrap ((x : Int) * (y : Int)) = ((x * y % 18446744073709551616 : Nat) : Int) := by rw [IntKind.wrap_u64]; simp
 have E := hid e
 show Calls Tryz.prog 171 #[.int .u64 x, .int .u64 y] W _
 obtain ⟨z, hz⟩ : ∃ z, z = x * y % 18446744073709551616 := ⟨_, rfl⟩
 show Calls Tryz.prog 171 #[.int .u64 x, .int .u64 y] W (fun e w' => e = .returned (.int .u64 ((x * y % 18446744073709551616 : Nat) : Int)) ∧ Below W.heap.size W w')
 rw [← hz] at E ⊢
 clear e hb hx hy hz
 go_enter Tryz.func171, Tryz.ntmps171
 go_wp2
 go_ret
 exact ⟨ret_int E.out, Below.refl _ _⟩
theorem products_says (n : Nat) (hn : n ≤ 16) (va vb : Value) (F G : Nat → Nat) (w : World) (ha : RowAt w va n F) (hb : RowAt w vb n G) (hF : ∀ i, i < n → F i < 18446744073709551616) (hG : ∀ i, i < n → G i < 18446744073709551616) :
  Calls Tryz.prog 102 #[va, vb] w (LPost w n (fun i => F i * G i % 18446744073709551616)) := by
 have HE := fun W (h : RowAt W va n F) (h' : RowAt W vb n G) => hid (each_says 171 #[] (fun x y => x * y % 18446744073709551616) W (prod_does W) prod_enters n hn va vb F G h h' hF hG)
 have HA := hid ha
 have HB := hid hb
 clear ha hb hF hG
 generalize (fun i => F i * G i % 18446744073709551616) = R at *
 go_enter Tryz.func102, Tryz.ntmps102
 go_wp2_with (go_at_call 71; (with_reducible refine (HE _ HA.out HB.out).out.mono ?_); rintro e w1 ⟨v1, rfl, ho1, hb1⟩)
 go_ret
 exact ⟨_, rfl, ho1, hb1⟩
set_option maxHeartbeats 4000000 in
theorem pairSums_says (m : Nat) (hm : m ≤ 16) (vl : Value) (F : Nat → Nat) (w : World) (n2 : Nat) (hn2 : n2 = 2 * m) (hl : RowAt w vl n2 F) :
  Calls Tryz.prog 103 #[vl] w (LPost w m (fun i => (F (2 * i) + F (2 * i + 1)) % 18446744073709551616)) := by
 obtain ⟨i0, hi0, hz0, hz1, hz2⟩ := info_parts info22
 obtain ⟨R, hR⟩ : ∃ R : Nat → Nat, R = fun i => (F (2 * i) + F (2 * i + 1)) % 18446744073709551616 := ⟨_, rfl⟩
 rw [← hR]
 have HR := hid (fun i : Nat => congrFun hR i)
 obtain ⟨gl, ol, cl, rfl, hgl, hcl, hatl⟩ := hl
 have HA := hid hatl
 have i9 : (n2 : Int) / 2 = (m : Int) := by omega
 have HN2 := hid hn2
 have i8 : ¬ ((n2 : Int) < 0) := by omega
 clear hatl hR hn2
 go_enter Tryz.func103, Tryz.ntmps103
 go_wp2_with (at_make; refine wpList_make_full _ rfl _ _ 40 rfl w.heap.size 22 i0 (.int .u64 0) 1 Tryz.underlying40 hi0 hz0 hz1 .i64 .i64 _ _ m rfl rfl rfl rfl (by rw [hz2]; omega) (by unfold maxLen; omega) (Nat.le_refl _) ?_; intro w3 hown3 hgrow3)
 have HS3 := hid (EInv.start (F := R) hown3 hgrow3)
 clear hown3 hgrow3
 go_loopw [11] (fun vi wr => ∃ i : Nat, i ≤ m ∧ vi = .int .i64 i ∧ Hid (EInv w w.heap.size m R i wr)) (fun vi _ => m - (intOf vi).toNat)
 case atStart => exact ⟨0, Nat.zero_le _, rfl, HS3⟩
 case round =>
  obtain ⟨i, hin, rfl, HI⟩ := hrel
  by_cases hlt : i < m
  ·have HLT := hid hlt
   obtain ⟨p, hp⟩ : ∃ p, p = 2 * i := ⟨_, rfl⟩
   obtain ⟨q, hq⟩ : ∃ q, q = 2 * i + 1 := ⟨_, rfl⟩
   have hn2 := HN2.out
   have k1 := (HA.out p (by omega)).1
   have k2 := (HA.out q (by omega)).1
   have i1 := hid (show 2 * (i : Int) = (p : Int) by omega)
   have i2 := hid (show (p : Int) + 1 = (q : Int) by omega)
   have hpn : p < n2 := by omega
   have hqn : q < n2 := by omega
   have HSUM := hid (show IntKind.u64.wrap ((F p : Int) + (F q : Int)) = ((R i : Nat) : Int) by rw [HR.out i, hp, hq, IntKind.wrap_u64]; simp)
   have i4 := hid (show IntKind.i64.wrap (p : Int) = (p : Int) by rw [IntKind.wrap_i64]; omega)
   have i5 := hid (show IntKind.i64.wrap (q : Int) = (q : Int) by rw [IntKind.wrap_i64]; omega)
   clear hp hq HR hn2
   go_upto_region 5 with fail
   have HJW := HI.out.drew
   have hS := HJW.2.1
   refine wp_region_held_drew (S := Below w.heap.size w) (by kernel_rfl) hS (fun _ => ?_)
   generalize wr.drew = W at *
   refine wpAnyH_take (oi := ⟨_, _, _, _, _, _⟩) (i := 0) (v := .slice (some ⟨w.heap.size, 0, none⟩) m m) rfl (by kernel_rfl) (by kernel_rfl) (by kernel_rfl) (fun _ _ _ h => h) (Or.inl ⟨by rfl, ?_⟩) (by assumption) ?_
   ·(intro W hSw; have x1 := (hSw.cell (p := ⟨gl, ol + p, none⟩) hgl).trans k1; have x2 := (hSw.cell (p := ⟨gl, ol + q, none⟩) hgl).trans k2; have i1 := i1.out; have i2 := i2.out; have i3 := HSUM.out; have i4 := i4.out; have i5 := i5.out; go_simp; try (with_reducible rfl))
   try simp only [Act.put, List.setIfInBounds_toArray, List.set_cons_zero, List.set_cons_succ]
   refine wpAnyH_take (oi := ⟨_, _, _, _, _, _⟩) (i := 1) (v := .int .i64 i) rfl (by kernel_rfl) (by kernel_rfl) (by kernel_rfl) (fun _ _ _ h => h) (Or.inl ⟨by rfl, ?_⟩) (by assumption) ?_
   ·(intro W hSw; have x1 := (hSw.cell (p := ⟨gl, ol + p, none⟩) hgl).trans k1; have x2 := (hSw.cell (p := ⟨gl, ol + q, none⟩) hgl).trans k2; have i1 := i1.out; have i2 := i2.out; have i3 := HSUM.out; have i4 := i4.out; have i5 := i5.out; go_simp; try (with_reducible rfl))
   try simp only [Act.put, List.setIfInBounds_toArray, List.set_cons_zero, List.set_cons_succ]
   refine wpAnyH_take (oi := ⟨_, _, _, _, _, _⟩) (i := 2) (v := .slice (some ⟨gl, ol, none⟩) n2 cl) rfl (by kernel_rfl) (by kernel_rfl) (by kernel_rfl) (fun _ _ _ h => h) (Or.inl ⟨by rfl, ?_⟩) (by assumption) ?_
   ·(intro W hSw; have x1 := (hSw.cell (p := ⟨gl, ol + p, none⟩) hgl).trans k1; have x2 := (hSw.cell (p := ⟨gl, ol + q, none⟩) hgl).trans k2; have i1 := i1.out; have i2 := i2.out; have i3 := HSUM.out; have i4 := i4.out; have i5 := i5.out; go_simp; try (with_reducible rfl))
   try simp only [Act.put, List.setIfInBounds_toArray, List.set_cons_zero, List.set_cons_succ]
   refine wpAnyH_take (oi := ⟨_, _, _, _, _, _⟩) (i := 3) (v := .int .i64 i) rfl (by kernel_rfl) (by kernel_rfl) (by kernel_rfl) (fun _ _ _ h => h) (Or.inl ⟨by rfl, ?_⟩) (by assumption) ?_
   ·(intro W hSw; have x1 := (hSw.cell (p := ⟨gl, ol + p, none⟩) hgl).trans k1; have x2 := (hSw.cell (p := ⟨gl, ol + q, none⟩) hgl).trans k2; have i1 := i1.out; have i2 := i2.out; have i3 := HSUM.out; have i4 := i4.out; have i5 := i5.out; go_simp; try (with_reducible rfl))
   try simp only [Act.put, List.setIfInBounds_toArray, List.set_cons_zero, List.set_cons_succ]
   refine wpAnyH_take (oi := ⟨_, _, _, _, _, _⟩) (i := 4) (v := .int .i64 (p : Int)) rfl (by kernel_rfl) (by kernel_rfl) (by kernel_rfl) (fun _ _ _ h => h) (Or.inl ⟨by rfl, ?_⟩) (by assumption) ?_
   ·(intro W hSw; have x1 := (hSw.cell (p := ⟨gl, ol + p, none⟩) hgl).trans k1; have x2 := (hSw.cell (p := ⟨gl, ol + q, none⟩) hgl).trans k2; have i1 := i1.out; have i2 := i2.out; have i3 := HSUM.out; have i4 := i4.out; have i5 := i5.out; go_simp; try (with_reducible rfl))
   try simp only [Act.put, List.setIfInBounds_toArray, List.set_cons_zero, List.set_cons_succ]
   refine wpAnyH_take (oi := ⟨_, _, _, _, _, _⟩) (i := 5) (v := .pointer (some ⟨gl, ol + p, none⟩)) rfl (by kernel_rfl) (by kernel_rfl) (by kernel_rfl) (fun _ _ _ h => h) (Or.inl ⟨by rfl, ?_⟩) (by assumption) ?_
   ·(intro W hSw; have x1 := (hSw.cell (p := ⟨gl, ol + p, none⟩) hgl).trans k1; have x2 := (hSw.cell (p := ⟨gl, ol + q, none⟩) hgl).trans k2; have i1 := i1.out; have i2 := i2.out; have i3 := HSUM.out; have i4 := i4.out; have i5 := i5.out; go_simp; try (with_reducible rfl))
   try simp only [Act.put, List.setIfInBounds_toArray, List.set_cons_zero, List.set_cons_succ]
   refine wpAnyH_take (oi := ⟨_, _, _, _, _, _⟩) (i := 6) (v := .int .u64 (F p : Nat)) rfl (by kernel_rfl) (by kernel_rfl) (by kernel_rfl) (fun _ _ _ h => h) (Or.inl ⟨by rfl, ?_⟩) (by assumption) ?_
   ·(intro W hSw; have x1 := (hSw.cell (p := ⟨gl, ol + p, none⟩) hgl).trans k1; have x2 := (hSw.cell (p := ⟨gl, ol + q, none⟩) hgl).trans k2; have i1 := i1.out; have i2 := i2.out; have i3 := HSUM.out; have i4 := i4.out; have i5 := i5.out; go_simp; try (with_reducible rfl))
   try simp only [Act.put, List.setIfInBounds_toArray, List.set_cons_zero, List.set_cons_succ]
   refine wpAnyH_take (oi := ⟨_, _, _, _, _, _⟩) (i := 7) (v := .slice (some ⟨gl, ol, none⟩) n2 cl) rfl (by kernel_rfl) (by kernel_rfl) (by kernel_rfl) (fun _ _ _ h => h) (Or.inl ⟨by rfl, ?_⟩) (by assumption) ?_
   ·(intro W hSw; have x1 := (hSw.cell (p := ⟨gl, ol + p, none⟩) hgl).trans k1; have x2 := (hSw.cell (p := ⟨gl, ol + q, none⟩) hgl).trans k2; have i1 := i1.out; have i2 := i2.out; have i3 := HSUM.out; have i4 := i4.out; have i5 := i5.out; go_simp; try (with_reducible rfl))
   try simp only [Act.put, List.setIfInBounds_toArray, List.set_cons_zero, List.set_cons_succ]
   refine wpAnyH_take (oi := ⟨_, _, _, _, _, _⟩) (i := 8) (v := .int .i64 i) rfl (by kernel_rfl) (by kernel_rfl) (by kernel_rfl) (fun _ _ _ h => h) (Or.inl ⟨by rfl, ?_⟩) (by assumption) ?_
   ·(intro W hSw; have x1 := (hSw.cell (p := ⟨gl, ol + p, none⟩) hgl).trans k1; have x2 := (hSw.cell (p := ⟨gl, ol + q, none⟩) hgl).trans k2; have i1 := i1.out; have i2 := i2.out; have i3 := HSUM.out; have i4 := i4.out; have i5 := i5.out; go_simp; try (with_reducible rfl))
   try simp only [Act.put, List.setIfInBounds_toArray, List.set_cons_zero, List.set_cons_succ]
   refine wpAnyH_take (oi := ⟨_, _, _, _, _, _⟩) (i := 9) (v := .int .i64 (p : Int)) rfl (by kernel_rfl) (by kernel_rfl) (by kernel_rfl) (fun _ _ _ h => h) (Or.inl ⟨by rfl, ?_⟩) (by assumption) ?_
   ·(intro W hSw; have x1 := (hSw.cell (p := ⟨gl, ol + p, none⟩) hgl).trans k1; have x2 := (hSw.cell (p := ⟨gl, ol + q, none⟩) hgl).trans k2; have i1 := i1.out; have i2 := i2.out; have i3 := HSUM.out; have i4 := i4.out; have i5 := i5.out; go_simp; try (with_reducible rfl))
   try simp only [Act.put, List.setIfInBounds_toArray, List.set_cons_zero, List.set_cons_succ]
   refine wpAnyH_take (oi := ⟨_, _, _, _, _, _⟩) (i := 10) (v := .int .i64 (q : Int)) rfl (by kernel_rfl) (by kernel_rfl) (by kernel_rfl) (fun _ _ _ h => h) (Or.inl ⟨by rfl, ?_⟩) (by assumption) ?_
   ·(intro W hSw; have x1 := (hSw.cell (p := ⟨gl, ol + p, none⟩) hgl).trans k1; have x2 := (hSw.cell (p := ⟨gl, ol + q, none⟩) hgl).trans k2; have i1 := i1.out; have i2 := i2.out; have i3 := HSUM.out; have i4 := i4.out; have i5 := i5.out; go_simp; try (with_reducible rfl))
   try simp only [Act.put, List.setIfInBounds_toArray, List.set_cons_zero, List.set_cons_succ]
   refine wpAnyH_take (oi := ⟨_, _, _, _, _, _⟩) (i := 11) (v := .pointer (some ⟨gl, ol + q, none⟩)) rfl (by kernel_rfl) (by kernel_rfl) (by kernel_rfl) (fun _ _ _ h => h) (Or.inl ⟨by rfl, ?_⟩) (by assumption) ?_
   ·(intro W hSw; have x1 := (hSw.cell (p := ⟨gl, ol + p, none⟩) hgl).trans k1; have x2 := (hSw.cell (p := ⟨gl, ol + q, none⟩) hgl).trans k2; have i1 := i1.out; have i2 := i2.out; have i3 := HSUM.out; have i4 := i4.out; have i5 := i5.out; go_simp; try (with_reducible rfl))
   try simp only [Act.put, List.setIfInBounds_toArray, List.set_cons_zero, List.set_cons_succ]
   refine wpAnyH_take (oi := ⟨_, _, _, _, _, _⟩) (i := 12) (v := .int .u64 (F q : Nat)) rfl (by kernel_rfl) (by kernel_rfl) (by kernel_rfl) (fun _ _ _ h => h) (Or.inl ⟨by rfl, ?_⟩) (by assumption) ?_
   ·(intro W hSw; have x1 := (hSw.cell (p := ⟨gl, ol + p, none⟩) hgl).trans k1; have x2 := (hSw.cell (p := ⟨gl, ol + q, none⟩) hgl).trans k2; have i1 := i1.out; have i2 := i2.out; have i3 := HSUM.out; have i4 := i4.out; have i5 := i5.out; go_simp; try (with_reducible rfl))
   try simp only [Act.put, List.setIfInBounds_toArray, List.set_cons_zero, List.set_cons_succ]
   refine wpAnyH_take (oi := ⟨_, _, _, _, _, _⟩) (i := 13) (v := .int .u64 (R i : Nat)) rfl (by kernel_rfl) (by kernel_rfl) (by kernel_rfl) (fun _ _ _ h => h) (Or.inl ⟨by rfl, ?_⟩) (by assumption) ?_
   ·(intro W hSw; have x1 := (hSw.cell (p := ⟨gl, ol + p, none⟩) hgl).trans k1; have x2 := (hSw.cell (p := ⟨gl, ol + q, none⟩) hgl).trans k2; have i1 := i1.out; have i2 := i2.out; have i3 := HSUM.out; have i4 := i4.out; have i5 := i5.out; go_simp; try (with_reducible rfl))
   try simp only [Act.put, List.setIfInBounds_toArray, List.set_cons_zero, List.set_cons_succ]
   refine wpAnyH_take (oi := ⟨_, _, _, _, _, _⟩) (i := 14) (v := .pointer (some ⟨w.heap.size, i, none⟩)) rfl (by kernel_rfl) (by kernel_rfl) (by kernel_rfl) (fun _ _ _ h => h) (Or.inl ⟨by rfl, ?_⟩) (by assumption) ?_
   ·(intro W hSw; have x1 := (hSw.cell (p := ⟨gl, ol + p, none⟩) hgl).trans k1; have x2 := (hSw.cell (p := ⟨gl, ol + q, none⟩) hgl).trans k2; have i1 := i1.out; have i2 := i2.out; have i3 := HSUM.out; have i4 := i4.out; have i5 := i5.out; go_simp; try (with_reducible rfl))
   try simp only [Act.put, List.setIfInBounds_toArray, List.set_cons_zero, List.set_cons_succ]
   refine wpAnyH_ready (rs := [15]) (by kernel_rfl) (by simp) ?_
   refine AllReadyH.cons (o := ⟨_, _, _, _, _, _⟩) rfl (fun K hK => ?_) ?_
   ·obtain ⟨z0, z1⟩ := HJW.cells hlt
    go_simp
    clear z0 z1
    replace HJW := HJW.next
    refine hK.out _ _ HJW.2.1 (fun _ => ?_)
    clear hK K
    try simp only [Act.put, List.setIfInBounds_toArray, List.set_cons_zero, List.set_cons_succ]
    refine wpAnyH_done (by kernel_rfl) ?_ _
    go_wp2_with fail
    go_roundw
    case rel => exact ⟨i + 1, hlt, rfl, HJW⟩
    case measure => (simp [intOf]; omega)
   exact AllReadyH.nil
  ·obtain rfl : i = m := by omega
   have HE := hid (HI.out.end (Nat.le_refl _))
   go_wp2
   go_ret
   exact ⟨_, rfl, HE.out.1, HE.out.2⟩
end Go.Proofs.YtlhakbkdlgejpaaGreatDoor
