/-
  LBVec, LBMath: merged, what the law does not reach left out (each text says what it holds where it lies in wip). No condition.
-/
import Derived.Test.YtlhakbkdlgejpaaGreatDoorK23
import Derived.Test.YtlhakbkdlgejpaaGreatDoorK15
import Derived.Test.YtlhakbkdlgejpaaGreatDoorK16
import Derived.Test.YtlhakbkdlgejpaaGreatDoorK24
set_option linter.unusedSimpArgs false
set_option linter.unusedVariables false
set_option maxRecDepth 100000
namespace Go.Proofs.YtlhakbkdlgejpaaGreatDoor
open Go.RowKit
/-- The bits of a where those of c are 1, and those of b elsewhere. -/
def selN (a b c : Nat) : Nat := (a &&& c) ||| (b &&& (18446744073709551615 - c))
theorem selN_lt (a b c : Nat) (ha : a < 18446744073709551616) (hb : b < 18446744073709551616) : selN a b c < 18446744073709551616 := by
  have h1 : a &&& c < 2 ^ 64 := Nat.lt_of_le_of_lt Nat.and_le_left (by omega)
  have h2 : b &&& (18446744073709551615 - c) < 2 ^ 64 := Nat.lt_of_le_of_lt Nat.and_le_left (by omega)
  exact Nat.or_lt_two_pow h1 h2
set_option maxHeartbeats 4000000 in
theorem chosen_says (n : Nat) (hn1 : 1 ≤ n) (hn : n ≤ 16) (va vb vc : Value) (F G H : Nat → Nat) (w : World) (ha : RowAt w va n F) (hb : RowAt w vb n G) (hc : RowAt w vc n H) (hF : ∀ i, F i < 18446744073709551616) (hG : ∀ i, G i < 18446744073709551616) (hH : ∀ i, H i < 18446744073709551616) :
    Calls Tryz.prog 67 #[va, vb, vc] w (LPost w n (fun i => selN (F i) (G i) (H i))) := by
  obtain ⟨i0, hi0, hz0, hz1, hz2⟩ := info_parts info22
  obtain ⟨R, hR⟩ : ∃ R : Nat → Nat, R = fun i => selN (F i) (G i) (H i) := ⟨_, rfl⟩
  rw [← hR]
  have HR := hid (fun i : Nat => congrFun hR i)
  obtain ⟨ga, oa, ca, rfl, hga, hca, hata⟩ := ha
  obtain ⟨gb, ob, cb, rfl, hgb, hcb, hatb⟩ := hb
  obtain ⟨gc, oc, cc, rfl, hgc, hcc, hatc⟩ := hc
  have HA := hid hata
  have HB := hid hatb
  have HC := hid hatc
  have HF := hid hF
  have HG := hid hG
  have HH := hid hH
  clear hata hatb hatc hR hF hG hH
  go_enter Tryz.func67, Tryz.ntmps67
  go_wp2_with (at_make; refine wpList_make_full _ rfl _ _ 40 rfl w.heap.size 22 i0 (.int .u64 0) 1 Tryz.underlying40 hi0 hz0 hz1 .i64 .i64 _ _ n rfl rfl rfl rfl (by rw [hz2]; omega) (by unfold maxLen; omega) (Nat.le_refl _) ?_; intro w3 hown3 hgrow3)
  have HS3 := hid (EInv.start (F := R) hown3 hgrow3)
  clear hown3 hgrow3
  go_loopw [14] (fun vi wr => ∃ i : Nat, i ≤ n ∧ vi = .int .i64 i ∧ Hid (EInv w w.heap.size n R i wr)) (fun vi _ => n - (intOf vi).toNat)
  case atStart => exact ⟨0, Nat.zero_le _, rfl, HS3⟩
  case round =>
    obtain ⟨i, hin, rfl, HI⟩ := hrel
    by_cases hlt : i < n
    · have HLT := hid hlt
      have k1 := (HA.out i hlt).1
      have k2 := (HB.out i hlt).1
      have k3 := (HC.out i hlt).1
      obtain ⟨p1, hp1⟩ : ∃ p1, p1 = F i &&& H i := ⟨_, rfl⟩
      obtain ⟨p2, hp2⟩ : ∃ p2, p2 = G i &&& (18446744073709551615 - H i) := ⟨_, rfl⟩
      have l1 : p1 < 18446744073709551616 := by rw [hp1]; exact Nat.lt_of_le_of_lt Nat.and_le_left (HF.out i)
      have l2 : p2 < 18446744073709551616 := by rw [hp2]; exact Nat.lt_of_le_of_lt Nat.and_le_left (HG.out i)
      have E1 := hid (show bits .and .u64 (F i : Int) (H i : Int) = (p1 : Int) by rw [hp1]; exact bits_and_u64_nat _ _ (HF.out i) (HH.out i))
      have E2 := hid (show bits .andNot .u64 (G i : Int) (H i : Int) = (p2 : Int) by rw [hp2]; exact andNot_u64 _ _ (HG.out i) (HH.out i))
      have E3 := hid (show bits .or .u64 (p1 : Int) (p2 : Int) = ((R i : Nat) : Int) by rw [HR.out i, bits_or_u64_nat _ _ l1 l2, hp1, hp2]; rfl)
      clear hp1 hp2 l1 l2 HF HG HH HR
      generalize F i = x at *
      generalize G i = y at *
      generalize H i = z at *
      go_upto_region 5 with fail
      have HJW := HI.out.drew
      have hS := HJW.2.1
      refine wp_region_held_drew (S := Below w.heap.size w) (by kernel_rfl) hS (fun _ => ?_)
      generalize wr.drew = W at *
      refine wpAnyH_take (oi := ⟨_, _, _, _, _, _⟩) (i := 0) (v := .slice (some ⟨w.heap.size, 0, none⟩) n n) rfl (by kernel_rfl) (by kernel_rfl) (by kernel_rfl) (fun _ _ _ h => h) (Or.inl ⟨by rfl, ?_⟩) (by assumption) ?_
      · (intro W hSw; have x1 := (hSw.cell (p := ⟨ga, oa + i, none⟩) hga).trans k1; have x2 := (hSw.cell (p := ⟨gb, ob + i, none⟩) hgb).trans k2; have x3 := (hSw.cell (p := ⟨gc, oc + i, none⟩) hgc).trans k3; have e1 := E1.out; have e2 := E2.out; have e3 := E3.out; go_simp; try (with_reducible rfl))
      try simp only [Act.put, List.setIfInBounds_toArray, List.set_cons_zero, List.set_cons_succ]
      refine wpAnyH_take (oi := ⟨_, _, _, _, _, _⟩) (i := 1) (v := .int .i64 i) rfl (by kernel_rfl) (by kernel_rfl) (by kernel_rfl) (fun _ _ _ h => h) (Or.inl ⟨by rfl, ?_⟩) (by assumption) ?_
      · (intro W hSw; have x1 := (hSw.cell (p := ⟨ga, oa + i, none⟩) hga).trans k1; have x2 := (hSw.cell (p := ⟨gb, ob + i, none⟩) hgb).trans k2; have x3 := (hSw.cell (p := ⟨gc, oc + i, none⟩) hgc).trans k3; have e1 := E1.out; have e2 := E2.out; have e3 := E3.out; go_simp; try (with_reducible rfl))
      try simp only [Act.put, List.setIfInBounds_toArray, List.set_cons_zero, List.set_cons_succ]
      refine wpAnyH_take (oi := ⟨_, _, _, _, _, _⟩) (i := 2) (v := .slice (some ⟨ga, oa, none⟩) n ca) rfl (by kernel_rfl) (by kernel_rfl) (by kernel_rfl) (fun _ _ _ h => h) (Or.inl ⟨by rfl, ?_⟩) (by assumption) ?_
      · (intro W hSw; have x1 := (hSw.cell (p := ⟨ga, oa + i, none⟩) hga).trans k1; have x2 := (hSw.cell (p := ⟨gb, ob + i, none⟩) hgb).trans k2; have x3 := (hSw.cell (p := ⟨gc, oc + i, none⟩) hgc).trans k3; have e1 := E1.out; have e2 := E2.out; have e3 := E3.out; go_simp; try (with_reducible rfl))
      try simp only [Act.put, List.setIfInBounds_toArray, List.set_cons_zero, List.set_cons_succ]
      refine wpAnyH_take (oi := ⟨_, _, _, _, _, _⟩) (i := 3) (v := .int .i64 i) rfl (by kernel_rfl) (by kernel_rfl) (by kernel_rfl) (fun _ _ _ h => h) (Or.inl ⟨by rfl, ?_⟩) (by assumption) ?_
      · (intro W hSw; have x1 := (hSw.cell (p := ⟨ga, oa + i, none⟩) hga).trans k1; have x2 := (hSw.cell (p := ⟨gb, ob + i, none⟩) hgb).trans k2; have x3 := (hSw.cell (p := ⟨gc, oc + i, none⟩) hgc).trans k3; have e1 := E1.out; have e2 := E2.out; have e3 := E3.out; go_simp; try (with_reducible rfl))
      try simp only [Act.put, List.setIfInBounds_toArray, List.set_cons_zero, List.set_cons_succ]
      refine wpAnyH_take (oi := ⟨_, _, _, _, _, _⟩) (i := 4) (v := .pointer (some ⟨ga, oa + i, none⟩)) rfl (by kernel_rfl) (by kernel_rfl) (by kernel_rfl) (fun _ _ _ h => h) (Or.inl ⟨by rfl, ?_⟩) (by assumption) ?_
      · (intro W hSw; have x1 := (hSw.cell (p := ⟨ga, oa + i, none⟩) hga).trans k1; have x2 := (hSw.cell (p := ⟨gb, ob + i, none⟩) hgb).trans k2; have x3 := (hSw.cell (p := ⟨gc, oc + i, none⟩) hgc).trans k3; have e1 := E1.out; have e2 := E2.out; have e3 := E3.out; go_simp; try (with_reducible rfl))
      try simp only [Act.put, List.setIfInBounds_toArray, List.set_cons_zero, List.set_cons_succ]
      refine wpAnyH_take (oi := ⟨_, _, _, _, _, _⟩) (i := 5) (v := .int .u64 (x : Nat)) rfl (by kernel_rfl) (by kernel_rfl) (by kernel_rfl) (fun _ _ _ h => h) (Or.inl ⟨by rfl, ?_⟩) (by assumption) ?_
      · (intro W hSw; have x1 := (hSw.cell (p := ⟨ga, oa + i, none⟩) hga).trans k1; have x2 := (hSw.cell (p := ⟨gb, ob + i, none⟩) hgb).trans k2; have x3 := (hSw.cell (p := ⟨gc, oc + i, none⟩) hgc).trans k3; have e1 := E1.out; have e2 := E2.out; have e3 := E3.out; go_simp; try (with_reducible rfl))
      try simp only [Act.put, List.setIfInBounds_toArray, List.set_cons_zero, List.set_cons_succ]
      refine wpAnyH_take (oi := ⟨_, _, _, _, _, _⟩) (i := 6) (v := .slice (some ⟨gc, oc, none⟩) n cc) rfl (by kernel_rfl) (by kernel_rfl) (by kernel_rfl) (fun _ _ _ h => h) (Or.inl ⟨by rfl, ?_⟩) (by assumption) ?_
      · (intro W hSw; have x1 := (hSw.cell (p := ⟨ga, oa + i, none⟩) hga).trans k1; have x2 := (hSw.cell (p := ⟨gb, ob + i, none⟩) hgb).trans k2; have x3 := (hSw.cell (p := ⟨gc, oc + i, none⟩) hgc).trans k3; have e1 := E1.out; have e2 := E2.out; have e3 := E3.out; go_simp; try (with_reducible rfl))
      try simp only [Act.put, List.setIfInBounds_toArray, List.set_cons_zero, List.set_cons_succ]
      refine wpAnyH_take (oi := ⟨_, _, _, _, _, _⟩) (i := 7) (v := .int .i64 i) rfl (by kernel_rfl) (by kernel_rfl) (by kernel_rfl) (fun _ _ _ h => h) (Or.inl ⟨by rfl, ?_⟩) (by assumption) ?_
      · (intro W hSw; have x1 := (hSw.cell (p := ⟨ga, oa + i, none⟩) hga).trans k1; have x2 := (hSw.cell (p := ⟨gb, ob + i, none⟩) hgb).trans k2; have x3 := (hSw.cell (p := ⟨gc, oc + i, none⟩) hgc).trans k3; have e1 := E1.out; have e2 := E2.out; have e3 := E3.out; go_simp; try (with_reducible rfl))
      try simp only [Act.put, List.setIfInBounds_toArray, List.set_cons_zero, List.set_cons_succ]
      refine wpAnyH_take (oi := ⟨_, _, _, _, _, _⟩) (i := 8) (v := .pointer (some ⟨gc, oc + i, none⟩)) rfl (by kernel_rfl) (by kernel_rfl) (by kernel_rfl) (fun _ _ _ h => h) (Or.inl ⟨by rfl, ?_⟩) (by assumption) ?_
      · (intro W hSw; have x1 := (hSw.cell (p := ⟨ga, oa + i, none⟩) hga).trans k1; have x2 := (hSw.cell (p := ⟨gb, ob + i, none⟩) hgb).trans k2; have x3 := (hSw.cell (p := ⟨gc, oc + i, none⟩) hgc).trans k3; have e1 := E1.out; have e2 := E2.out; have e3 := E3.out; go_simp; try (with_reducible rfl))
      try simp only [Act.put, List.setIfInBounds_toArray, List.set_cons_zero, List.set_cons_succ]
      refine wpAnyH_take (oi := ⟨_, _, _, _, _, _⟩) (i := 9) (v := .int .u64 (z : Nat)) rfl (by kernel_rfl) (by kernel_rfl) (by kernel_rfl) (fun _ _ _ h => h) (Or.inl ⟨by rfl, ?_⟩) (by assumption) ?_
      · (intro W hSw; have x1 := (hSw.cell (p := ⟨ga, oa + i, none⟩) hga).trans k1; have x2 := (hSw.cell (p := ⟨gb, ob + i, none⟩) hgb).trans k2; have x3 := (hSw.cell (p := ⟨gc, oc + i, none⟩) hgc).trans k3; have e1 := E1.out; have e2 := E2.out; have e3 := E3.out; go_simp; try (with_reducible rfl))
      try simp only [Act.put, List.setIfInBounds_toArray, List.set_cons_zero, List.set_cons_succ]
      refine wpAnyH_take (oi := ⟨_, _, _, _, _, _⟩) (i := 10) (v := .int .u64 (p1 : Nat)) rfl (by kernel_rfl) (by kernel_rfl) (by kernel_rfl) (fun _ _ _ h => h) (Or.inl ⟨by rfl, ?_⟩) (by assumption) ?_
      · (intro W hSw; have x1 := (hSw.cell (p := ⟨ga, oa + i, none⟩) hga).trans k1; have x2 := (hSw.cell (p := ⟨gb, ob + i, none⟩) hgb).trans k2; have x3 := (hSw.cell (p := ⟨gc, oc + i, none⟩) hgc).trans k3; have e1 := E1.out; have e2 := E2.out; have e3 := E3.out; go_simp; try (with_reducible rfl))
      try simp only [Act.put, List.setIfInBounds_toArray, List.set_cons_zero, List.set_cons_succ]
      refine wpAnyH_take (oi := ⟨_, _, _, _, _, _⟩) (i := 11) (v := .slice (some ⟨gb, ob, none⟩) n cb) rfl (by kernel_rfl) (by kernel_rfl) (by kernel_rfl) (fun _ _ _ h => h) (Or.inl ⟨by rfl, ?_⟩) (by assumption) ?_
      · (intro W hSw; have x1 := (hSw.cell (p := ⟨ga, oa + i, none⟩) hga).trans k1; have x2 := (hSw.cell (p := ⟨gb, ob + i, none⟩) hgb).trans k2; have x3 := (hSw.cell (p := ⟨gc, oc + i, none⟩) hgc).trans k3; have e1 := E1.out; have e2 := E2.out; have e3 := E3.out; go_simp; try (with_reducible rfl))
      try simp only [Act.put, List.setIfInBounds_toArray, List.set_cons_zero, List.set_cons_succ]
      refine wpAnyH_take (oi := ⟨_, _, _, _, _, _⟩) (i := 12) (v := .int .i64 i) rfl (by kernel_rfl) (by kernel_rfl) (by kernel_rfl) (fun _ _ _ h => h) (Or.inl ⟨by rfl, ?_⟩) (by assumption) ?_
      · (intro W hSw; have x1 := (hSw.cell (p := ⟨ga, oa + i, none⟩) hga).trans k1; have x2 := (hSw.cell (p := ⟨gb, ob + i, none⟩) hgb).trans k2; have x3 := (hSw.cell (p := ⟨gc, oc + i, none⟩) hgc).trans k3; have e1 := E1.out; have e2 := E2.out; have e3 := E3.out; go_simp; try (with_reducible rfl))
      try simp only [Act.put, List.setIfInBounds_toArray, List.set_cons_zero, List.set_cons_succ]
      refine wpAnyH_take (oi := ⟨_, _, _, _, _, _⟩) (i := 13) (v := .pointer (some ⟨gb, ob + i, none⟩)) rfl (by kernel_rfl) (by kernel_rfl) (by kernel_rfl) (fun _ _ _ h => h) (Or.inl ⟨by rfl, ?_⟩) (by assumption) ?_
      · (intro W hSw; have x1 := (hSw.cell (p := ⟨ga, oa + i, none⟩) hga).trans k1; have x2 := (hSw.cell (p := ⟨gb, ob + i, none⟩) hgb).trans k2; have x3 := (hSw.cell (p := ⟨gc, oc + i, none⟩) hgc).trans k3; have e1 := E1.out; have e2 := E2.out; have e3 := E3.out; go_simp; try (with_reducible rfl))
      try simp only [Act.put, List.setIfInBounds_toArray, List.set_cons_zero, List.set_cons_succ]
      refine wpAnyH_take (oi := ⟨_, _, _, _, _, _⟩) (i := 14) (v := .int .u64 (y : Nat)) rfl (by kernel_rfl) (by kernel_rfl) (by kernel_rfl) (fun _ _ _ h => h) (Or.inl ⟨by rfl, ?_⟩) (by assumption) ?_
      · (intro W hSw; have x1 := (hSw.cell (p := ⟨ga, oa + i, none⟩) hga).trans k1; have x2 := (hSw.cell (p := ⟨gb, ob + i, none⟩) hgb).trans k2; have x3 := (hSw.cell (p := ⟨gc, oc + i, none⟩) hgc).trans k3; have e1 := E1.out; have e2 := E2.out; have e3 := E3.out; go_simp; try (with_reducible rfl))
      try simp only [Act.put, List.setIfInBounds_toArray, List.set_cons_zero, List.set_cons_succ]
      refine wpAnyH_take (oi := ⟨_, _, _, _, _, _⟩) (i := 15) (v := .slice (some ⟨gc, oc, none⟩) n cc) rfl (by kernel_rfl) (by kernel_rfl) (by kernel_rfl) (fun _ _ _ h => h) (Or.inl ⟨by rfl, ?_⟩) (by assumption) ?_
      · (intro W hSw; have x1 := (hSw.cell (p := ⟨ga, oa + i, none⟩) hga).trans k1; have x2 := (hSw.cell (p := ⟨gb, ob + i, none⟩) hgb).trans k2; have x3 := (hSw.cell (p := ⟨gc, oc + i, none⟩) hgc).trans k3; have e1 := E1.out; have e2 := E2.out; have e3 := E3.out; go_simp; try (with_reducible rfl))
      try simp only [Act.put, List.setIfInBounds_toArray, List.set_cons_zero, List.set_cons_succ]
      refine wpAnyH_take (oi := ⟨_, _, _, _, _, _⟩) (i := 16) (v := .int .i64 i) rfl (by kernel_rfl) (by kernel_rfl) (by kernel_rfl) (fun _ _ _ h => h) (Or.inl ⟨by rfl, ?_⟩) (by assumption) ?_
      · (intro W hSw; have x1 := (hSw.cell (p := ⟨ga, oa + i, none⟩) hga).trans k1; have x2 := (hSw.cell (p := ⟨gb, ob + i, none⟩) hgb).trans k2; have x3 := (hSw.cell (p := ⟨gc, oc + i, none⟩) hgc).trans k3; have e1 := E1.out; have e2 := E2.out; have e3 := E3.out; go_simp; try (with_reducible rfl))
      try simp only [Act.put, List.setIfInBounds_toArray, List.set_cons_zero, List.set_cons_succ]
      refine wpAnyH_take (oi := ⟨_, _, _, _, _, _⟩) (i := 17) (v := .pointer (some ⟨gc, oc + i, none⟩)) rfl (by kernel_rfl) (by kernel_rfl) (by kernel_rfl) (fun _ _ _ h => h) (Or.inl ⟨by rfl, ?_⟩) (by assumption) ?_
      · (intro W hSw; have x1 := (hSw.cell (p := ⟨ga, oa + i, none⟩) hga).trans k1; have x2 := (hSw.cell (p := ⟨gb, ob + i, none⟩) hgb).trans k2; have x3 := (hSw.cell (p := ⟨gc, oc + i, none⟩) hgc).trans k3; have e1 := E1.out; have e2 := E2.out; have e3 := E3.out; go_simp; try (with_reducible rfl))
      try simp only [Act.put, List.setIfInBounds_toArray, List.set_cons_zero, List.set_cons_succ]
      refine wpAnyH_take (oi := ⟨_, _, _, _, _, _⟩) (i := 18) (v := .int .u64 (z : Nat)) rfl (by kernel_rfl) (by kernel_rfl) (by kernel_rfl) (fun _ _ _ h => h) (Or.inl ⟨by rfl, ?_⟩) (by assumption) ?_
      · (intro W hSw; have x1 := (hSw.cell (p := ⟨ga, oa + i, none⟩) hga).trans k1; have x2 := (hSw.cell (p := ⟨gb, ob + i, none⟩) hgb).trans k2; have x3 := (hSw.cell (p := ⟨gc, oc + i, none⟩) hgc).trans k3; have e1 := E1.out; have e2 := E2.out; have e3 := E3.out; go_simp; try (with_reducible rfl))
      try simp only [Act.put, List.setIfInBounds_toArray, List.set_cons_zero, List.set_cons_succ]
      refine wpAnyH_take (oi := ⟨_, _, _, _, _, _⟩) (i := 19) (v := .int .u64 (p2 : Nat)) rfl (by kernel_rfl) (by kernel_rfl) (by kernel_rfl) (fun _ _ _ h => h) (Or.inl ⟨by rfl, ?_⟩) (by assumption) ?_
      · (intro W hSw; have x1 := (hSw.cell (p := ⟨ga, oa + i, none⟩) hga).trans k1; have x2 := (hSw.cell (p := ⟨gb, ob + i, none⟩) hgb).trans k2; have x3 := (hSw.cell (p := ⟨gc, oc + i, none⟩) hgc).trans k3; have e1 := E1.out; have e2 := E2.out; have e3 := E3.out; go_simp; try (with_reducible rfl))
      try simp only [Act.put, List.setIfInBounds_toArray, List.set_cons_zero, List.set_cons_succ]
      refine wpAnyH_take (oi := ⟨_, _, _, _, _, _⟩) (i := 20) (v := .int .u64 (R i : Nat)) rfl (by kernel_rfl) (by kernel_rfl) (by kernel_rfl) (fun _ _ _ h => h) (Or.inl ⟨by rfl, ?_⟩) (by assumption) ?_
      · (intro W hSw; have x1 := (hSw.cell (p := ⟨ga, oa + i, none⟩) hga).trans k1; have x2 := (hSw.cell (p := ⟨gb, ob + i, none⟩) hgb).trans k2; have x3 := (hSw.cell (p := ⟨gc, oc + i, none⟩) hgc).trans k3; have e1 := E1.out; have e2 := E2.out; have e3 := E3.out; go_simp; try (with_reducible rfl))
      try simp only [Act.put, List.setIfInBounds_toArray, List.set_cons_zero, List.set_cons_succ]
      refine wpAnyH_take (oi := ⟨_, _, _, _, _, _⟩) (i := 21) (v := .pointer (some ⟨w.heap.size, i, none⟩)) rfl (by kernel_rfl) (by kernel_rfl) (by kernel_rfl) (fun _ _ _ h => h) (Or.inl ⟨by rfl, ?_⟩) (by assumption) ?_
      · (intro W hSw; have x1 := (hSw.cell (p := ⟨ga, oa + i, none⟩) hga).trans k1; have x2 := (hSw.cell (p := ⟨gb, ob + i, none⟩) hgb).trans k2; have x3 := (hSw.cell (p := ⟨gc, oc + i, none⟩) hgc).trans k3; have e1 := E1.out; have e2 := E2.out; have e3 := E3.out; go_simp; try (with_reducible rfl))
      try simp only [Act.put, List.setIfInBounds_toArray, List.set_cons_zero, List.set_cons_succ]
      refine wpAnyH_ready (rs := [22]) (by kernel_rfl) (by simp) ?_
      refine AllReadyH.cons (o := ⟨_, _, _, _, _, _⟩) rfl (fun K hK => ?_) ?_
      · obtain ⟨z0, z1⟩ := HJW.cells hlt
        go_simp
        clear z0 z1
        replace HJW := HJW.next
        refine hK.out _ _ HJW.2.1 (fun _ => ?_)
        clear hK K
        try simp only [Act.put, List.setIfInBounds_toArray, List.set_cons_zero, List.set_cons_succ]
        refine wpAnyH_done (by kernel_rfl) ?_ _
        go_wp2_with fail
        go_roundw
        case rel => exact ⟨i + 1, hlt, rfl, HJW⟩
        case measure => (simp [intOf]; omega)
      exact AllReadyH.nil
    · obtain rfl : i = n := by omega
      have HE := hid (HI.out.end (Nat.le_refl _))
      go_wp2
      go_ret
      exact ⟨_, rfl, HE.out.1, HE.out.2⟩
set_option maxHeartbeats 8000000 in
theorem vector_bsel (ff : Bool) (fb : Int) (tf : Bool) (tb : Int) (sg : Bool) (vi va : Value) (c : Nat) (hc1 : 1 ≤ c) (hc : c ≤ 16) (F G H : Nat → Nat) (hF : ∀ i, F i < 18446744073709551616) (hG : ∀ i, G i < 18446744073709551616) (hH : ∀ i, H i < 18446744073709551616) (w : World)
    (H0 : ∀ W, Below w.heap.size w W → Calls Tryz.prog 64 #[insV [98, 105, 116, 115, 101, 108, 101, 99, 116] ff fb tf tb sg, va, .int .i64 0] W (LPost W c F))
    (H1 : ∀ W, Below w.heap.size w W → Calls Tryz.prog 64 #[insV [98, 105, 116, 115, 101, 108, 101, 99, 116] ff fb tf tb sg, va, .int .i64 1] W (LPost W c G))
    (H2 : ∀ W, Below w.heap.size w W → Calls Tryz.prog 64 #[insV [98, 105, 116, 115, 101, 108, 101, 99, 116] ff fb tf tb sg, va, .int .i64 2] W (LPost W c H)) :
    Calls Tryz.prog 34 #[insV [98, 105, 116, 115, 101, 108, 101, 99, 116] ff fb tf tb sg, vi, va] w (LPost w c (fun i => selN (F i) (G i) (H i))) := by
  have HCH := fun va vb vc W h1 h2 h3 => hid (chosen_says c hc1 hc va vb vc F G H W h1 h2 h3 hF hG hH)
  unfold insV at H0 H1 H2 ⊢
  obtain ⟨s, hs⟩ : ∃ s, s = str [98, 105, 116, 115, 101, 108, 101, 99, 116] := ⟨_, rfl⟩
  rw [← hs] at H0 H1 H2 ⊢
  have q0 : (s.toList == [115, 112, 108, 97, 116]) = false := by rw [hs, str_list]; decide
  have q1 : (s.toList == [114, 101, 112, 108, 97, 99, 101, 95, 108, 97, 110, 101]) = false := by rw [hs, str_list]; decide
  have q2 : (s.toList == [115, 104, 117, 102, 102, 108, 101]) = false := by rw [hs, str_list]; decide
  have q3 : (s.toList == [115, 119, 105, 122, 122, 108, 101]) = false := by rw [hs, str_list]; decide
  have q4 : (s.toList == [98, 105, 116, 115, 101, 108, 101, 99, 116]) = true := by rw [hs, str_list]; decide
  have HH0 := fun W h => hid (H0 W h)
  have HH1 := fun W h => hid (H1 W h)
  have HH2 := fun W h => hid (H2 W h)
  clear H0 H1 H2 hs hF hG hH hc
  generalize (fun i => selN (F i) (G i) (H i)) = R at *
  go_enter Tryz.func34, Tryz.ntmps34
  go_upto_region 1 with fail
  have hS : Below w.heap.size w (w.alloc (.cells #[.string s, .bool ff, .int .i64 fb, .bool tf, .int .i64 tb, .bool sg] 50)).drew ∧ CA w.heap.size #[.string s, .bool ff, .int .i64 fb, .bool tf, .int .i64 tb, .bool sg] 50 (w.alloc (.cells #[.string s, .bool ff, .int .i64 fb, .bool tf, .int .i64 tb, .bool sg] 50)).drew := ⟨((Below.refl _ w).alloc (Nat.le_refl _) _).drew, (CA.new w _ 50).drew⟩
  refine wp_region_held_drew (S := fun W => Below w.heap.size w W ∧ CA w.heap.size #[.string s, .bool ff, .int .i64 fb, .bool tf, .int .i64 tb, .bool sg] 50 W) (by kernel_rfl) hS (fun _ => ?_)
  generalize (w.alloc (.cells #[.string s, .bool ff, .int .i64 fb, .bool tf, .int .i64 tb, .bool sg] 50)).drew = W at *
  refine wpAnyH_take (oi := ⟨_, _, _, _, _, _⟩) (i := 0) (v := .agg #[.string s, .bool ff, .int .i64 fb, .bool tf, .int .i64 tb, .bool sg]) rfl (by kernel_rfl) (by kernel_rfl) (by kernel_rfl) (fun _ _ _ h => h) (Or.inl ⟨by rfl, ?_⟩) (by assumption) ?_
  · (intro W hSw; have x0 := hSw.2.at (k := 0) (v := .string s) rfl; have x1 := hSw.2.at (k := 1) (v := .bool ff) rfl; have x2 := hSw.2.at (k := 2) (v := .int .i64 fb) rfl; have x3 := hSw.2.at (k := 3) (v := .bool tf) rfl; have x4 := hSw.2.at (k := 4) (v := .int .i64 tb) rfl; have x5 := hSw.2.at (k := 5) (v := .bool sg) rfl; go_simp; try (with_reducible rfl))
  try simp only [Act.put, List.setIfInBounds_toArray, List.set_cons_zero, List.set_cons_succ]
  refine wpAnyH_take (oi := ⟨_, _, _, _, _, _⟩) (i := 1) (v := va) rfl (by kernel_rfl) (by kernel_rfl) (by kernel_rfl) (fun _ _ _ h => h) (Or.inl ⟨by rfl, ?_⟩) (by assumption) ?_
  · (intro W hSw; have x0 := hSw.2.at (k := 0) (v := .string s) rfl; have x1 := hSw.2.at (k := 1) (v := .bool ff) rfl; have x2 := hSw.2.at (k := 2) (v := .int .i64 fb) rfl; have x3 := hSw.2.at (k := 3) (v := .bool tf) rfl; have x4 := hSw.2.at (k := 4) (v := .int .i64 tb) rfl; have x5 := hSw.2.at (k := 5) (v := .bool sg) rfl; go_simp; try (with_reducible rfl))
  try simp only [Act.put, List.setIfInBounds_toArray, List.set_cons_zero, List.set_cons_succ]
  refine wpAnyH_take (oi := ⟨_, _, _, _, _, _⟩) (i := 3) (v := .agg #[.string s, .bool ff, .int .i64 fb, .bool tf, .int .i64 tb, .bool sg]) rfl (by kernel_rfl) (by kernel_rfl) (by kernel_rfl) (fun _ _ _ h => h) (Or.inl ⟨by rfl, ?_⟩) (by assumption) ?_
  · (intro W hSw; have x0 := hSw.2.at (k := 0) (v := .string s) rfl; have x1 := hSw.2.at (k := 1) (v := .bool ff) rfl; have x2 := hSw.2.at (k := 2) (v := .int .i64 fb) rfl; have x3 := hSw.2.at (k := 3) (v := .bool tf) rfl; have x4 := hSw.2.at (k := 4) (v := .int .i64 tb) rfl; have x5 := hSw.2.at (k := 5) (v := .bool sg) rfl; go_simp; try (with_reducible rfl))
  try simp only [Act.put, List.setIfInBounds_toArray, List.set_cons_zero, List.set_cons_succ]
  refine wpAnyH_take (oi := ⟨_, _, _, _, _, _⟩) (i := 4) (v := va) rfl (by kernel_rfl) (by kernel_rfl) (by kernel_rfl) (fun _ _ _ h => h) (Or.inl ⟨by rfl, ?_⟩) (by assumption) ?_
  · (intro W hSw; have x0 := hSw.2.at (k := 0) (v := .string s) rfl; have x1 := hSw.2.at (k := 1) (v := .bool ff) rfl; have x2 := hSw.2.at (k := 2) (v := .int .i64 fb) rfl; have x3 := hSw.2.at (k := 3) (v := .bool tf) rfl; have x4 := hSw.2.at (k := 4) (v := .int .i64 tb) rfl; have x5 := hSw.2.at (k := 5) (v := .bool sg) rfl; go_simp; try (with_reducible rfl))
  try simp only [Act.put, List.setIfInBounds_toArray, List.set_cons_zero, List.set_cons_succ]
  refine wpAnyH_ready (rs := [2]) (by kernel_rfl) (by simp) ?_
  refine AllReadyH.cons (o := ⟨_, _, _, _, _, _⟩) rfl (fun K hK => ?_) ?_
  · go_simp
    go_at_call 64
    (with_reducible refine (HH0 _ hS.1).out.mono ?_)
    rintro e W1 ⟨v1, rfl, ho1, hb⟩
    have hlt0 : w.heap.size + 1 ≤ W.heap.size := hS.2.lt
    have HO1 := hid (own_mono ho1 hlt0)
    replace hS := And.intro (hS.1.trans (hb.mono hS.1.size)) (hS.2.call hb)
    have HB11 := hid (show w.heap.size + 1 ≤ W1.heap.size from hS.2.lt)
    clear hb ho1
    refine hK.out _ _ hS (fun _ => ?_)
    clear hK K
    try simp only [Act.put, List.setIfInBounds_toArray, List.set_cons_zero, List.set_cons_succ]
    refine wpAnyH_ready (rs := [5]) (by kernel_rfl) (by simp) ?_
    refine AllReadyH.cons (o := ⟨_, _, _, _, _, _⟩) rfl (fun K hK => ?_) ?_
    · go_simp
      go_at_call 64
      (with_reducible refine (HH1 _ hS.1).out.mono ?_)
      rintro e W2 ⟨v2, rfl, ho2, hb⟩
      replace hS := And.intro (hS.1.trans (hb.mono hS.1.size)) (hS.2.call hb)
      replace HO1 := hid (own_below HO1.out hb (Nat.le_refl _))
      have HO2 := hid ho2
      clear hb ho2
      refine hK.out _ _ hS (fun _ => ?_)
      clear hK K
      try simp only [Act.put, List.setIfInBounds_toArray, List.set_cons_zero, List.set_cons_succ]
      refine wpAnyH_take (oi := ⟨_, _, _, _, _, _⟩) (i := 6) (v := v1) rfl (by kernel_rfl) (by kernel_rfl) (by kernel_rfl) (fun _ _ _ h => h) (Or.inl ⟨by rfl, ?_⟩) (by assumption) ?_
      · (intro W hSw; have x0 := hSw.2.at (k := 0) (v := .string s) rfl; have x1 := hSw.2.at (k := 1) (v := .bool ff) rfl; have x2 := hSw.2.at (k := 2) (v := .int .i64 fb) rfl; have x3 := hSw.2.at (k := 3) (v := .bool tf) rfl; have x4 := hSw.2.at (k := 4) (v := .int .i64 tb) rfl; have x5 := hSw.2.at (k := 5) (v := .bool sg) rfl; go_simp; try (with_reducible rfl))
      try simp only [Act.put, List.setIfInBounds_toArray, List.set_cons_zero, List.set_cons_succ]
      refine wpAnyH_take (oi := ⟨_, _, _, _, _, _⟩) (i := 7) (v := v2) rfl (by kernel_rfl) (by kernel_rfl) (by kernel_rfl) (fun _ _ _ h => h) (Or.inl ⟨by rfl, ?_⟩) (by assumption) ?_
      · (intro W hSw; have x0 := hSw.2.at (k := 0) (v := .string s) rfl; have x1 := hSw.2.at (k := 1) (v := .bool ff) rfl; have x2 := hSw.2.at (k := 2) (v := .int .i64 fb) rfl; have x3 := hSw.2.at (k := 3) (v := .bool tf) rfl; have x4 := hSw.2.at (k := 4) (v := .int .i64 tb) rfl; have x5 := hSw.2.at (k := 5) (v := .bool sg) rfl; go_simp; try (with_reducible rfl))
      try simp only [Act.put, List.setIfInBounds_toArray, List.set_cons_zero, List.set_cons_succ]
      refine wpAnyH_done (by kernel_rfl) ?_ _
      have y0 := hS.2.at (k := 0) (v := .string s) rfl
      have y1 := hS.2.at (k := 1) (v := .bool ff) rfl
      have y2 := hS.2.at (k := 2) (v := .int .i64 fb) rfl
      have y3 := hS.2.at (k := 3) (v := .bool tf) rfl
      have y4 := hS.2.at (k := 4) (v := .int .i64 tb) rfl
      have y5 := hS.2.at (k := 5) (v := .bool sg) rfl
      have HR1 := hid (RowAt.of_own HO1.out hc1)
      have HR2 := hid (RowAt.of_own HO2.out hc1)
      have HB2 := hid hS.1
      clear HO1 HO2 HB11 hS HH0 HH1
      go_wp2_with (first
        | (go_at_call 64; (with_reducible refine (HH2 _ HB2.out).out.mono ?_); rintro e W3 ⟨v3, rfl, ho3, hb3⟩; have HR3 := hid (RowAt.of_own ho3 hc1); have HX1 := hid (HR1.out.call hb3); have HX2 := hid (HR2.out.call hb3); have HB3 := hid (HB2.out.trans (hb3.mono HB2.out.size)); clear ho3 hb3)
        | (go_at_call 67; (with_reducible refine (HCH _ _ _ _ HX1.out HX2.out HR3.out).out.mono ?_); rintro e W4 ⟨v4, rfl, ho4, hb4⟩))
      go_ret
      exact ⟨_, rfl, own_mono ho4 HB3.out.size, HB3.out.trans (hb4.mono HB3.out.size)⟩
    exact AllReadyH.nil
  exact AllReadyH.nil
set_option maxHeartbeats 4000000 in
theorem Do_bsel (op : Int) (nm : List UInt8) (hnm : (lineL op).1 = str nm) (hpar : parV nm = insV [98, 105, 116, 115, 101, 108, 101, 99, 116] false 64 false 64 false) (hn1 : nm.length ≤ 1000) (hok : ((xsL nm).2 == 0) = false → 0 ≤ laL6 nm)
    (h64 : 64768 ≤ op) (hkn : knB (lineL op) = true) (him : (lineL op).2.1 = 0) (hla : laL op = [123, 123, 123]) (hlb : lbL op = [123])
    (alo ahi blo bhi clo chi : Nat) (anl bnl cnl : Bool) (h1 : alo < 18446744073709551616) (h2 : ahi < 18446744073709551616) (h3 : blo < 18446744073709551616) (h4 : bhi < 18446744073709551616) (h5 : clo < 18446744073709551616) (h6 : chi < 18446744073709551616)
    (w : World) (hg : Glob w) (va : Value) (ha : AR w va [(123, alo, ahi, anl), (123, blo, bhi, bnl), (123, clo, chi, cnl)]) :
    Calls Tryz.prog 20 #[.int .i64 op, .slice none 0 0, va] w fun e w' => e = .returned (.tuple #[vv 123 (loF 64 (fun i => selN (splitF 64 alo ahi i) (splitF 64 blo bhi i) (splitF 64 clo chi i))) (hiF 64 (fun i => selN (splitF 64 alo ahi i) (splitF 64 blo bhi i) (splitF 64 clo chi i))) false, .int .i64 0]) ∧ Below w.heap.size w w' := by
  have hn : Okn 64 := by decide
  refine Do_vec op nm hnm [98, 105, 116, 115, 101, 108, 101, 99, 116] false 64 false 64 hn false hpar hn1 hok hlb (.slice none 0 0) va w hg ?_ _ ?_ ?_
  · intro W hW
    exact fits_says op h64 hkn [] (by rw [him]; rfl) (fun x hx => by cases hx) [(123, alo, ahi, anl), (123, blo, bhi, bnl), (123, clo, chi, cnl)] (by rw [hla]; rfl) (by simp) (by simp) (.slice none 0 0) va W.heap.size W (hg.next hW) (ha.call hW) (World.ownsRow_nil _ _ _ _)
  · intro i hi
    exact selN_lt _ _ _ (splitF_u64 hn _ _ _) (splitF_u64 hn _ _ _)
  · intro W hW
    exact vector_bsel false 64 false 64 false (.slice none 0 0) va 2 (by decide) (by decide) (splitF 64 alo ahi) (splitF 64 blo bhi) (splitF 64 clo chi) (fun i => splitF_u64 hn _ _ _) (fun i => splitF_u64 hn _ _ _) (fun i => splitF_u64 hn _ _ _) W
      (fun W2 h => operand_v [98, 105, 116, 115, 101, 108, 101, 99, 116] false 64 hn false 64 false va _ 0 alo ahi anl rfl h1 h2 W2 ((ha.call hW).call h))
      (fun W2 h => operand_v [98, 105, 116, 115, 101, 108, 101, 99, 116] false 64 hn false 64 false va _ 1 blo bhi bnl rfl h3 h4 W2 ((ha.call hW).call h))
      (fun W2 h => operand_v [98, 105, 116, 115, 101, 108, 101, 99, 116] false 64 hn false 64 false va _ 2 clo chi cnl rfl h5 h6 W2 ((ha.call hW).call h))
end Go.Proofs.YtlhakbkdlgejpaaGreatDoor
namespace Go.Proofs.YtlhakbkdlgejpaaGreatDoor
open Go.RowKit
/-- What is done with words of 64 bits. -/
def wordB (k a b c : Nat) : Nat :=
  if k = 0 then 18446744073709551615 - a else if k = 1 then a &&& b else if k = 2 then a &&& (18446744073709551615 - b) else if k = 3 then a ||| b else if k = 4 then a ^^^ b else selN a b c
theorem laneN_bit (x i j : Nat) : (laneN 8 x i).testBit j = (decide (j < 8) && x.testBit (8 * i + j)) := by
  unfold laneN
  rw [Nat.testBit_mod_two_pow, Nat.testBit_div_two_pow, Nat.add_comm]
theorem lane_and (a b i : Nat) : laneN 8 (a &&& b) i = laneN 8 a i &&& laneN 8 b i := by
  apply Nat.eq_of_testBit_eq; intro j
  simp only [laneN_bit, Nat.testBit_and]
  cases decide (j < 8) <;> simp
theorem lane_or (a b i : Nat) : laneN 8 (a ||| b) i = laneN 8 a i ||| laneN 8 b i := by
  apply Nat.eq_of_testBit_eq; intro j
  simp only [laneN_bit, Nat.testBit_or]
  cases decide (j < 8) <;> simp
theorem lane_xor (a b i : Nat) : laneN 8 (a ^^^ b) i = laneN 8 a i ^^^ laneN 8 b i := by
  apply Nat.eq_of_testBit_eq; intro j
  simp only [laneN_bit, Nat.testBit_xor]
  cases decide (j < 8) <;> simp
theorem lane_not (a i : Nat) (ha : a < 18446744073709551616) (hi : i < 8) : laneN 8 (18446744073709551615 - a) i = 255 - laneN 8 a i := by
  have h1 : 18446744073709551615 - a = 18446744073709551615 ^^^ a := (xor_ones 64 a ha).symm
  have h2 : 255 - laneN 8 a i = 255 ^^^ laneN 8 a i := (xor_ones 8 _ (laneN_lt 8 a i)).symm
  rw [h1, h2, lane_xor]
  congr 1
  apply Nat.eq_of_testBit_eq; intro j
  rw [laneN_bit, show (18446744073709551615 : Nat) = 2 ^ 64 - 1 from rfl, show (255 : Nat) = 2 ^ 8 - 1 from rfl, Nat.testBit_two_pow_sub_one, Nat.testBit_two_pow_sub_one]
  by_cases h : j < 8
  · simp [h]; omega
  · simp [h]
theorem lane_cut (x i : Nat) : laneN 8 x i % 2 ^ 8 = laneN 8 x i := Nat.mod_eq_of_lt (laneN_lt 8 x i)
/-- Where c chooses, a sum is what is joined bit by bit. -/
theorem sel_byte (A B C : Nat) (hC : C < 2 ^ 8) : ((A &&& C) + (B &&& (255 - C))) % 2 ^ 8 = ((A &&& C) ||| (B &&& (255 - C))) % 2 ^ 8 := by
  have hz : (BitVec.ofNat 8 (A &&& C)) &&& (BitVec.ofNat 8 (B &&& (255 - C))) = 0#8 := by
    apply BitVec.eq_of_toNat_eq
    rw [BitVec.toNat_and, BitVec.toNat_ofNat, BitVec.toNat_ofNat]
    apply Nat.eq_of_testBit_eq; intro j
    rw [show 255 - C = 255 ^^^ C from (xor_ones 8 C hC).symm]
    simp only [Nat.testBit_and, Nat.testBit_mod_two_pow, Nat.testBit_xor, show (255 : Nat) = 2 ^ 8 - 1 from rfl, Nat.testBit_two_pow_sub_one]
    by_cases h : j < 8 <;> cases C.testBit j <;> simp [h]
  have h := BitVec.add_eq_or_of_and_eq_zero _ _ hz
  have h2 := congrArg BitVec.toNat h
  rw [BitVec.toNat_add, BitVec.toNat_or, BitVec.toNat_ofNat, BitVec.toNat_ofNat] at h2
  rw [Nat.add_mod, h2]
  apply Nat.eq_of_testBit_eq; intro j
  simp only [Nat.testBit_or, Nat.testBit_mod_two_pow]
  cases decide (j < 8) <;> simp
theorem who_lane (k : Nat) (hk : k ≤ 5) (a b c i : Nat) (ha : a < 18446744073709551616) (hb : b < 18446744073709551616) (hc : c < 18446744073709551616) (hi : i < 8) :
    whoB k (laneN 8 a i) (laneN 8 b i) (laneN 8 c i) % 2 ^ 8 = laneN 8 (wordB k a b c) i := by
  unfold whoB wordB
  rcases (show k = 0 ∨ k = 1 ∨ k = 2 ∨ k = 3 ∨ k = 4 ∨ k = 5 by omega) with rfl | rfl | rfl | rfl | rfl | rfl
  all_goals simp only [if_true, Nat.reduceEqDiff, if_false]
  · rw [← lane_not a i ha hi, lane_cut]
  · rw [← lane_and, lane_cut]
  · rw [← lane_not b i hb hi, ← lane_and, lane_cut]
  · rw [← lane_or, lane_cut]
  · rw [← lane_xor, lane_cut]
  · rw [sel_byte _ _ _ (laneN_lt 8 c i), ← lane_not c i hc hi, ← lane_and, ← lane_and, ← lane_or, lane_cut]
    rfl
theorem wordB_lt (k : Nat) (hk : k ≤ 5) (a b c : Nat) (ha : a < 18446744073709551616) (hb : b < 18446744073709551616) (hc : c < 18446744073709551616) : wordB k a b c < 18446744073709551616 := by
  have h1 : a &&& b < 2 ^ 64 := Nat.lt_of_le_of_lt Nat.and_le_left (by omega)
  have h2 : a &&& (18446744073709551615 - b) < 2 ^ 64 := Nat.lt_of_le_of_lt Nat.and_le_left (by omega)
  have h3 : a ||| b < 2 ^ 64 := Nat.or_lt_two_pow (by omega) (by omega)
  have h4 : a ^^^ b < 2 ^ 64 := Nat.xor_lt_two_pow (by omega) (by omega)
  have h5 := selN_lt a b c ha hb
  unfold wordB
  repeat' split
  all_goals omega
theorem who_lo (k : Nat) (hk : k ≤ 5) (al ah bl bh cl ch : Nat) (ha : al < 18446744073709551616) (hb : bl < 18446744073709551616) (hc : cl < 18446744073709551616) :
    loF 8 (fun i => whoB k (splitF 8 al ah i) (splitF 8 bl bh i) (splitF 8 cl ch i)) = wordB k al bl cl := by
  have e : loF 8 (fun i => whoB k (splitF 8 al ah i) (splitF 8 bl bh i) (splitF 8 cl ch i)) = packF 8 8 (laneN 8 (wordB k al bl cl)) := packF_congr 8 8 _ _ fun i hi => by
    have h8 : i < 64 / 8 := hi
    unfold splitF
    rw [if_pos h8, if_pos h8, if_pos h8, lane_cut]
    exact who_lane k hk _ _ _ i ha hb hc hi
  rw [e, packF_lanes]
  exact Nat.mod_eq_of_lt (wordB_lt k hk _ _ _ ha hb hc)
theorem who_hi (k : Nat) (hk : k ≤ 5) (al ah bl bh cl ch : Nat) (ha : ah < 18446744073709551616) (hb : bh < 18446744073709551616) (hc : ch < 18446744073709551616) :
    hiF 8 (fun i => whoB k (splitF 8 al ah i) (splitF 8 bl bh i) (splitF 8 cl ch i)) = wordB k ah bh ch := by
  have e : hiF 8 (fun i => whoB k (splitF 8 al ah i) (splitF 8 bl bh i) (splitF 8 cl ch i)) = packF 8 8 (laneN 8 (wordB k ah bh ch)) := packF_congr 8 8 _ _ fun i hi => by
    have h8 : ¬ (i + 64 / 8 < 64 / 8) := by omega
    unfold splitF
    simp only [if_neg h8, Nat.add_sub_cancel]
    rw [lane_cut]
    exact who_lane k hk _ _ _ i ha hb hc hi
  rw [e, packF_lanes]
  exact Nat.mod_eq_of_lt (wordB_lt k hk _ _ _ ha hb hc)
theorem split64 (lo hi : Nat) (h1 : lo < 18446744073709551616) (h2 : hi < 18446744073709551616) : splitF 64 lo hi 0 = lo ∧ splitF 64 lo hi 1 = hi := by
  unfold splitF laneN
  constructor
  · rw [if_pos (by decide)]; simp; omega
  · rw [if_neg (by decide)]; simp; omega
theorem pack64 (F : Nat → Nat) (h0 : F 0 < 18446744073709551616) (h1 : F 1 < 18446744073709551616) : loF 64 F = F 0 ∧ hiF 64 F = F 1 := by
  unfold loF hiF
  rw [show 64 / 64 = 1 from rfl]
  simp only [packF, Nat.mul_zero, Nat.pow_zero, Nat.one_mul, Nat.zero_add]
  omega
theorem any_eq {n : Nat} (h : Okn n) (lo hi : Nat) (h1 : lo < 18446744073709551616) (h2 : hi < 18446744073709551616) : anyN (cnt n) (splitF n lo hi) = decide (lo ≠ 0 ∨ hi ≠ 0) := by
  have hz : ∀ k, packF n k (fun _ => 0) = 0 := fun k => by
    induction k with
    | zero => rfl
    | succ k ih => rw [packF, ih]; simp
  refine decide_eq_decide.2 ⟨fun ⟨i, _, hi0⟩ => ?_, fun hh => ?_⟩
  · by_cases hl : lo = 0
    · by_cases hh : hi = 0
      · exfalso; apply hi0; subst hl; subst hh; unfold splitF laneN; split <;> simp
      · exact .inr hh
    · exact .inl hl
  · by_cases hc : ∀ i, i < cnt n → splitF n lo hi i = 0
    · exfalso
      have e1 : loF n (splitF n lo hi) = loF n (fun _ => 0) := loF_congr h fun i hi => by rw [hc i hi]
      have e2 : hiF n (splitF n lo hi) = hiF n (fun _ => 0) := hiF_congr h fun i hi => by rw [hc i hi]
      rw [loF_split h lo hi h1] at e1
      rw [hiF_split h lo hi h2] at e2
      have z1 : loF n (fun _ => 0) = 0 := hz _
      have z2 : hiF n (fun _ => 0) = 0 := hz _
      omega
    · exact Classical.byContradiction fun hn => hc fun i hi => Classical.byContradiction fun h0 => hn ⟨i, hi, h0⟩
end Go.Proofs.YtlhakbkdlgejpaaGreatDoor
