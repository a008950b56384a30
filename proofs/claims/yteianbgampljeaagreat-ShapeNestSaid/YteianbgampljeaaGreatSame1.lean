/-
  The contracts of slices.Equal over integers and over empty lists, and of slices.EqualFunc. Condition: what the question answers of each two.
-/
import Derived.Test.YteianbgampljeaaGreatEvery
set_option linter.unusedSimpArgs false
set_option linter.unusedVariables false
set_option maxRecDepth 100000
namespace Go.Proofs.YteianbgampljeaaGreat
open Go.RowKit

set_option maxHeartbeats 2000000 in
theorem eq_int (l1 l2 : List Int) (v1 v2 : Value) (B : Nat) (w : World) (h1 : LI B w v1 l1) (h2 : LI B w v2 l2) (hB : B ≤ w.heap.size) : Calls Tryz.prog 115 #[v1, v2] w fun e w' => e = .returned (.bool (l1 == l2)) ∧ Below w.heap.size w w' := by
  obtain ⟨p1, c1, rfl, hq1, hc1⟩ := h1
  obtain ⟨p2, c2, rfl, hq2, hc2⟩ := h2
  have HB := hid hB
  by_cases hl : l1.length = l2.length
  · obtain ⟨n, hn⟩ : ∃ n, n = l1.length := ⟨_, rfl⟩
    have hn2 : l2.length = n := by omega
    rw [← hn] at hq1 ⊢
    rw [hn2]
    have HC1 := hid hc1
    have HC2 := hid hc2
    have HN1 := hid hn.symm
    have HN2 := hid hn2
    have hd : ((n : Int) != (n : Int)) = false := by simp
    have hn' : (n : Int) < 9223372036854775807 := by omega
    obtain ⟨r, hr⟩ : ∃ r, r = (l1 == l2) := ⟨_, rfl⟩
    rw [← hr]
    have HR := hid hr
    clear hc1 hc2 hq1 hq2 hl hn hn2 hr hB
    go_enter Tryz.func115, Tryz.ntmps115
    go_wp2
    go_loopw [13] (fun vi wr => ∃ i : Nat, i ≤ n ∧ vi = .int .i64 i ∧ Hid (l1.take i = l2.take i) ∧ Hid (Below w.heap.size w wr)) (fun vi _ => n - (intOf vi).toNat)
    case atStart => exact ⟨0, Nat.zero_le _, rfl, rfl, Below.refl _ _⟩
    case round =>
      obtain ⟨i, hi, rfl, HI, HW⟩ := hrel
      by_cases hlt : i < n
      · have hi1 : i < l1.length := by rw [HN1.out]; exact hlt
        have hi2 : i < l2.length := by rw [HN2.out]; exact hlt
        obtain ⟨g1, o1, rfl, hg1, hx1⟩ := HC1.out (fun e => by rw [e] at hi1; simp at hi1)
        obtain ⟨g2, o2, rfl, hg2, hx2⟩ := HC2.out (fun e => by rw [e] at hi2; simp at hi2)
        obtain ⟨x, hx⟩ : ∃ x, l1[i]? = some x := ⟨_, List.getElem?_eq_getElem hi1⟩
        obtain ⟨y, hy⟩ : ∃ y, l2[i]? = some y := ⟨_, List.getElem?_eq_getElem hi2⟩
        have a1 := hx1 i x hx
        have a2 := hx2 i y hy
        have h1w : g1 < w.heap.size := Nat.lt_of_lt_of_le hg1 HB.out
        have h2w : g2 < w.heap.size := Nat.lt_of_lt_of_le hg2 HB.out
        have HX := hid hx
        have HY := hid hy
        clear hx1 hx2 hx hy hg1 hg2 hi1 hi2
        by_cases hxy : x = y
        · have hd2 : (x != y) = false := by simp [hxy]
          have HXY := hid hxy
          clear hxy
          go_upto_region 6 with fail
          have hS : Below w.heap.size w wr.drew := HW.out.drew
          refine wp_region_held_drew (S := fun W => Below w.heap.size w W) (by kernel_rfl) hS (fun _ => ?_)
          generalize wr.drew = W at *
          refine wpAnyH_take (oi := ⟨_, _, _, _, _, _⟩) (i := 0) (v := .slice (some ⟨g1, o1, none⟩) n c1) rfl (by kernel_rfl) (by kernel_rfl) (by kernel_rfl) (fun _ _ _ h => h) (Or.inl ⟨by rfl, ?_⟩) (by assumption) ?_
          · (intro W hSw; have z1 := (hSw.cell (p := ⟨g1, o1 + i, none⟩) h1w).trans a1; have z2 := (hSw.cell (p := ⟨g2, o2 + i, none⟩) h2w).trans a2; go_simp; try (with_reducible rfl))
          try simp only [Act.put, List.setIfInBounds_toArray, List.set_cons_zero, List.set_cons_succ]
          refine wpAnyH_take (oi := ⟨_, _, _, _, _, _⟩) (i := 1) (v := .int .i64 i) rfl (by kernel_rfl) (by kernel_rfl) (by kernel_rfl) (fun _ _ _ h => h) (Or.inl ⟨by rfl, ?_⟩) (by assumption) ?_
          · (intro W hSw; have z1 := (hSw.cell (p := ⟨g1, o1 + i, none⟩) h1w).trans a1; have z2 := (hSw.cell (p := ⟨g2, o2 + i, none⟩) h2w).trans a2; go_simp; try (with_reducible rfl))
          try simp only [Act.put, List.setIfInBounds_toArray, List.set_cons_zero, List.set_cons_succ]
          refine wpAnyH_take (oi := ⟨_, _, _, _, _, _⟩) (i := 2) (v := .pointer (some ⟨g1, o1 + i, none⟩)) rfl (by kernel_rfl) (by kernel_rfl) (by kernel_rfl) (fun _ _ _ h => h) (Or.inl ⟨by rfl, ?_⟩) (by assumption) ?_
          · (intro W hSw; have z1 := (hSw.cell (p := ⟨g1, o1 + i, none⟩) h1w).trans a1; have z2 := (hSw.cell (p := ⟨g2, o2 + i, none⟩) h2w).trans a2; go_simp; try (with_reducible rfl))
          try simp only [Act.put, List.setIfInBounds_toArray, List.set_cons_zero, List.set_cons_succ]
          refine wpAnyH_take (oi := ⟨_, _, _, _, _, _⟩) (i := 3) (v := .int .i64 x) rfl (by kernel_rfl) (by kernel_rfl) (by kernel_rfl) (fun _ _ _ h => h) (Or.inl ⟨by rfl, ?_⟩) (by assumption) ?_
          · (intro W hSw; have z1 := (hSw.cell (p := ⟨g1, o1 + i, none⟩) h1w).trans a1; have z2 := (hSw.cell (p := ⟨g2, o2 + i, none⟩) h2w).trans a2; go_simp; try (with_reducible rfl))
          try simp only [Act.put, List.setIfInBounds_toArray, List.set_cons_zero, List.set_cons_succ]
          refine wpAnyH_take (oi := ⟨_, _, _, _, _, _⟩) (i := 4) (v := .slice (some ⟨g2, o2, none⟩) n c2) rfl (by kernel_rfl) (by kernel_rfl) (by kernel_rfl) (fun _ _ _ h => h) (Or.inl ⟨by rfl, ?_⟩) (by assumption) ?_
          · (intro W hSw; have z1 := (hSw.cell (p := ⟨g1, o1 + i, none⟩) h1w).trans a1; have z2 := (hSw.cell (p := ⟨g2, o2 + i, none⟩) h2w).trans a2; go_simp; try (with_reducible rfl))
          try simp only [Act.put, List.setIfInBounds_toArray, List.set_cons_zero, List.set_cons_succ]
          refine wpAnyH_take (oi := ⟨_, _, _, _, _, _⟩) (i := 5) (v := .int .i64 i) rfl (by kernel_rfl) (by kernel_rfl) (by kernel_rfl) (fun _ _ _ h => h) (Or.inl ⟨by rfl, ?_⟩) (by assumption) ?_
          · (intro W hSw; have z1 := (hSw.cell (p := ⟨g1, o1 + i, none⟩) h1w).trans a1; have z2 := (hSw.cell (p := ⟨g2, o2 + i, none⟩) h2w).trans a2; go_simp; try (with_reducible rfl))
          try simp only [Act.put, List.setIfInBounds_toArray, List.set_cons_zero, List.set_cons_succ]
          refine wpAnyH_take (oi := ⟨_, _, _, _, _, _⟩) (i := 6) (v := .pointer (some ⟨g2, o2 + i, none⟩)) rfl (by kernel_rfl) (by kernel_rfl) (by kernel_rfl) (fun _ _ _ h => h) (Or.inl ⟨by rfl, ?_⟩) (by assumption) ?_
          · (intro W hSw; have z1 := (hSw.cell (p := ⟨g1, o1 + i, none⟩) h1w).trans a1; have z2 := (hSw.cell (p := ⟨g2, o2 + i, none⟩) h2w).trans a2; go_simp; try (with_reducible rfl))
          try simp only [Act.put, List.setIfInBounds_toArray, List.set_cons_zero, List.set_cons_succ]
          refine wpAnyH_take (oi := ⟨_, _, _, _, _, _⟩) (i := 7) (v := .int .i64 y) rfl (by kernel_rfl) (by kernel_rfl) (by kernel_rfl) (fun _ _ _ h => h) (Or.inl ⟨by rfl, ?_⟩) (by assumption) ?_
          · (intro W hSw; have z1 := (hSw.cell (p := ⟨g1, o1 + i, none⟩) h1w).trans a1; have z2 := (hSw.cell (p := ⟨g2, o2 + i, none⟩) h2w).trans a2; go_simp; try (with_reducible rfl))
          try simp only [Act.put, List.setIfInBounds_toArray, List.set_cons_zero, List.set_cons_succ]
          refine wpAnyH_take (oi := ⟨_, _, _, _, _, _⟩) (i := 8) (v := .bool false) rfl (by kernel_rfl) (by kernel_rfl) (by kernel_rfl) (fun _ _ _ h => h) (Or.inl ⟨by rfl, ?_⟩) (by assumption) ?_
          · (intro W hSw; have z1 := (hSw.cell (p := ⟨g1, o1 + i, none⟩) h1w).trans a1; have z2 := (hSw.cell (p := ⟨g2, o2 + i, none⟩) h2w).trans a2; go_simp; try (with_reducible rfl))
          try simp only [Act.put, List.setIfInBounds_toArray, List.set_cons_zero, List.set_cons_succ]
          refine wpAnyH_done (by kernel_rfl) ?_ _
          go_wp2_with fail
          go_roundw
          case rel => exact ⟨i + 1, hlt, by go_num, by (show l1.take (i + 1) = l2.take (i + 1)); rw [List.take_add_one, List.take_add_one, HI.out, HX.out, HY.out, HXY.out], hS⟩
          case measure => simp [intOf]; omega
        · have hd2 : (x != y) = true := by simp [hxy]
          have HE : Hid (r = false) := by
            rw [HR.out]
            refine beq_eq_false_iff_ne.2 fun e => hxy ?_
            have := HX.out
            rw [e, HY.out] at this
            simpa using this.symm
          clear hxy
          go_upto_region 6 with fail
          have hS : Below w.heap.size w wr.drew := HW.out.drew
          refine wp_region_held_drew (S := fun W => Below w.heap.size w W) (by kernel_rfl) hS (fun _ => ?_)
          generalize wr.drew = W at *
          refine wpAnyH_take (oi := ⟨_, _, _, _, _, _⟩) (i := 0) (v := .slice (some ⟨g1, o1, none⟩) n c1) rfl (by kernel_rfl) (by kernel_rfl) (by kernel_rfl) (fun _ _ _ h => h) (Or.inl ⟨by rfl, ?_⟩) (by assumption) ?_
          · (intro W hSw; have z1 := (hSw.cell (p := ⟨g1, o1 + i, none⟩) h1w).trans a1; have z2 := (hSw.cell (p := ⟨g2, o2 + i, none⟩) h2w).trans a2; go_simp; try (with_reducible rfl))
          try simp only [Act.put, List.setIfInBounds_toArray, List.set_cons_zero, List.set_cons_succ]
          refine wpAnyH_take (oi := ⟨_, _, _, _, _, _⟩) (i := 1) (v := .int .i64 i) rfl (by kernel_rfl) (by kernel_rfl) (by kernel_rfl) (fun _ _ _ h => h) (Or.inl ⟨by rfl, ?_⟩) (by assumption) ?_
          · (intro W hSw; have z1 := (hSw.cell (p := ⟨g1, o1 + i, none⟩) h1w).trans a1; have z2 := (hSw.cell (p := ⟨g2, o2 + i, none⟩) h2w).trans a2; go_simp; try (with_reducible rfl))
          try simp only [Act.put, List.setIfInBounds_toArray, List.set_cons_zero, List.set_cons_succ]
          refine wpAnyH_take (oi := ⟨_, _, _, _, _, _⟩) (i := 2) (v := .pointer (some ⟨g1, o1 + i, none⟩)) rfl (by kernel_rfl) (by kernel_rfl) (by kernel_rfl) (fun _ _ _ h => h) (Or.inl ⟨by rfl, ?_⟩) (by assumption) ?_
          · (intro W hSw; have z1 := (hSw.cell (p := ⟨g1, o1 + i, none⟩) h1w).trans a1; have z2 := (hSw.cell (p := ⟨g2, o2 + i, none⟩) h2w).trans a2; go_simp; try (with_reducible rfl))
          try simp only [Act.put, List.setIfInBounds_toArray, List.set_cons_zero, List.set_cons_succ]
          refine wpAnyH_take (oi := ⟨_, _, _, _, _, _⟩) (i := 3) (v := .int .i64 x) rfl (by kernel_rfl) (by kernel_rfl) (by kernel_rfl) (fun _ _ _ h => h) (Or.inl ⟨by rfl, ?_⟩) (by assumption) ?_
          · (intro W hSw; have z1 := (hSw.cell (p := ⟨g1, o1 + i, none⟩) h1w).trans a1; have z2 := (hSw.cell (p := ⟨g2, o2 + i, none⟩) h2w).trans a2; go_simp; try (with_reducible rfl))
          try simp only [Act.put, List.setIfInBounds_toArray, List.set_cons_zero, List.set_cons_succ]
          refine wpAnyH_take (oi := ⟨_, _, _, _, _, _⟩) (i := 4) (v := .slice (some ⟨g2, o2, none⟩) n c2) rfl (by kernel_rfl) (by kernel_rfl) (by kernel_rfl) (fun _ _ _ h => h) (Or.inl ⟨by rfl, ?_⟩) (by assumption) ?_
          · (intro W hSw; have z1 := (hSw.cell (p := ⟨g1, o1 + i, none⟩) h1w).trans a1; have z2 := (hSw.cell (p := ⟨g2, o2 + i, none⟩) h2w).trans a2; go_simp; try (with_reducible rfl))
          try simp only [Act.put, List.setIfInBounds_toArray, List.set_cons_zero, List.set_cons_succ]
          refine wpAnyH_take (oi := ⟨_, _, _, _, _, _⟩) (i := 5) (v := .int .i64 i) rfl (by kernel_rfl) (by kernel_rfl) (by kernel_rfl) (fun _ _ _ h => h) (Or.inl ⟨by rfl, ?_⟩) (by assumption) ?_
          · (intro W hSw; have z1 := (hSw.cell (p := ⟨g1, o1 + i, none⟩) h1w).trans a1; have z2 := (hSw.cell (p := ⟨g2, o2 + i, none⟩) h2w).trans a2; go_simp; try (with_reducible rfl))
          try simp only [Act.put, List.setIfInBounds_toArray, List.set_cons_zero, List.set_cons_succ]
          refine wpAnyH_take (oi := ⟨_, _, _, _, _, _⟩) (i := 6) (v := .pointer (some ⟨g2, o2 + i, none⟩)) rfl (by kernel_rfl) (by kernel_rfl) (by kernel_rfl) (fun _ _ _ h => h) (Or.inl ⟨by rfl, ?_⟩) (by assumption) ?_
          · (intro W hSw; have z1 := (hSw.cell (p := ⟨g1, o1 + i, none⟩) h1w).trans a1; have z2 := (hSw.cell (p := ⟨g2, o2 + i, none⟩) h2w).trans a2; go_simp; try (with_reducible rfl))
          try simp only [Act.put, List.setIfInBounds_toArray, List.set_cons_zero, List.set_cons_succ]
          refine wpAnyH_take (oi := ⟨_, _, _, _, _, _⟩) (i := 7) (v := .int .i64 y) rfl (by kernel_rfl) (by kernel_rfl) (by kernel_rfl) (fun _ _ _ h => h) (Or.inl ⟨by rfl, ?_⟩) (by assumption) ?_
          · (intro W hSw; have z1 := (hSw.cell (p := ⟨g1, o1 + i, none⟩) h1w).trans a1; have z2 := (hSw.cell (p := ⟨g2, o2 + i, none⟩) h2w).trans a2; go_simp; try (with_reducible rfl))
          try simp only [Act.put, List.setIfInBounds_toArray, List.set_cons_zero, List.set_cons_succ]
          refine wpAnyH_take (oi := ⟨_, _, _, _, _, _⟩) (i := 8) (v := .bool true) rfl (by kernel_rfl) (by kernel_rfl) (by kernel_rfl) (fun _ _ _ h => h) (Or.inl ⟨by rfl, ?_⟩) (by assumption) ?_
          · (intro W hSw; have z1 := (hSw.cell (p := ⟨g1, o1 + i, none⟩) h1w).trans a1; have z2 := (hSw.cell (p := ⟨g2, o2 + i, none⟩) h2w).trans a2; go_simp; try (with_reducible rfl))
          try simp only [Act.put, List.setIfInBounds_toArray, List.set_cons_zero, List.set_cons_succ]
          refine wpAnyH_done (by kernel_rfl) ?_ _
          go_wp2_with fail
          go_ret
          exact ⟨by rw [HE.out]; rfl, hS⟩
      · obtain rfl : i = n := by omega
        have HE : Hid (r = true) := by
          rw [HR.out]
          have := HI.out
          rw [List.take_of_length_le (by rw [HN1.out]; exact Nat.le_refl _), List.take_of_length_le (by rw [HN2.out]; exact Nat.le_refl _)] at this
          exact beq_iff_eq.2 this
        go_wp2
        go_ret
        exact ⟨by rw [HE.out]; rfl, HW.out⟩
  · have hd : ((l1.length : Int) != (l2.length : Int)) = true := by simp; omega
    have hr : (l1 == l2) = false := beq_eq_false_iff_ne.2 fun e => hl (by rw [e])
    rw [hr]
    generalize l1.length = n1 at *
    generalize l2.length = n2 at *
    clear hc1 hc2 hl
    go_enter Tryz.func115, Tryz.ntmps115
    go_wp2
    go_ret
    exact ⟨rfl, Below.refl _ _⟩
theorem eq_nil_76 (w : World) : Calls Tryz.prog 76 #[.slice none 0 0, .slice none 0 0] w fun e w' => e = .returned (.bool true) ∧ w = w' := by
  go_enter Tryz.func76, Tryz.ntmps76
  go_wp2
  go_loop [13] (fun vi => vi = .int .i64 0) (fun _ => 0)
  case atStart => rfl
  case round =>
    subst hrel
    go_wp2
    go_ret
    exact ⟨rfl, rfl⟩
theorem eq_nil_79 (w : World) : Calls Tryz.prog 79 #[.slice none 0 0, .slice none 0 0] w fun e w' => e = .returned (.bool true) ∧ w = w' := by
  go_enter Tryz.func79, Tryz.ntmps79
  go_wp2
  go_loop [13] (fun vi => vi = .int .i64 0) (fun _ => 0)
  case atStart => rfl
  case round =>
    subst hrel
    go_wp2
    go_ret
    exact ⟨rfl, rfl⟩
theorem eq_nil_80 (w : World) : Calls Tryz.prog 80 #[.slice none 0 0, .slice none 0 0] w fun e w' => e = .returned (.bool true) ∧ w = w' := by
  go_enter Tryz.func80, Tryz.ntmps80
  go_wp2
  go_loop [13] (fun vi => vi = .int .i64 0) (fun _ => 0)
  case atStart => rfl
  case round =>
    subst hrel
    go_wp2
    go_ret
    exact ⟨rfl, rfl⟩
theorem eq_nil_83 (w : World) : Calls Tryz.prog 83 #[.slice none 0 0, .slice none 0 0] w fun e w' => e = .returned (.bool true) ∧ w = w' := by
  go_enter Tryz.func83, Tryz.ntmps83
  go_wp2
  go_loop [13] (fun vi => vi = .int .i64 0) (fun _ => 0)
  case atStart => rfl
  case round =>
    subst hrel
    go_wp2
    go_ret
    exact ⟨rfl, rfl⟩
theorem eqf_nil_81 (k : Nat) (w : World) : Calls Tryz.prog 81 #[.slice none 0 0, .slice none 0 0, .func (.func k) #[] #[]] w fun e w' => e = .returned (.bool true) ∧ w = w' := by
  go_enter Tryz.func81, Tryz.ntmps81
  go_wp2
  go_loop [17] (fun vi => vi = .int .i64 0) (fun _ => 0)
  case atStart => rfl
  case round =>
    subst hrel
    go_wp2
    go_ret
    exact ⟨rfl, rfl⟩
theorem eqf_nil_84 (k : Nat) (w : World) : Calls Tryz.prog 84 #[.slice none 0 0, .slice none 0 0, .func (.func k) #[] #[]] w fun e w' => e = .returned (.bool true) ∧ w = w' := by
  go_enter Tryz.func84, Tryz.ntmps84
  go_wp2
  go_loop [17] (fun vi => vi = .int .i64 0) (fun _ => 0)
  case atStart => rfl
  case round =>
    subst hrel
    go_wp2
    go_ret
    exact ⟨rfl, rfl⟩
theorem eqf_nil_86 (k : Nat) (w : World) : Calls Tryz.prog 86 #[.slice none 0 0, .slice none 0 0, .func (.func k) #[] #[]] w fun e w' => e = .returned (.bool true) ∧ w = w' := by
  go_enter Tryz.func86, Tryz.ntmps86
  go_wp2
  go_loop [17] (fun vi => vi = .int .i64 0) (fun _ => 0)
  case atStart => rfl
  case round =>
    subst hrel
    go_wp2
    go_ret
    exact ⟨rfl, rfl⟩
theorem eqf_nil_132 (k : Nat) (w : World) : Calls Tryz.prog 132 #[.slice none 0 0, .slice none 0 0, .func (.func k) #[] #[]] w fun e w' => e = .returned (.bool true) ∧ w = w' := by
  go_enter Tryz.func132, Tryz.ntmps132
  go_wp2
  go_loop [17] (fun vi => vi = .int .i64 0) (fun _ => 0)
  case atStart => rfl
  case round =>
    subst hrel
    go_wp2
    go_ret
    exact ⟨rfl, rfl⟩
set_option maxHeartbeats 4000000 in
theorem eqf_ft (k : Nat) (eg : ∀ args w, (callFunc k args).run Tryz.prog w = .ok (.enter k args) w) (r : Bool) (g1 g2 d1 d2 : Nat) (ap0 : Option Addr) (an0 ac0 : Nat) (ap1 : Option Addr) (an1 ac1 : Nat) (bp0 : Option Addr) (bn0 bc0 : Nat) (bp1 : Option Addr) (bn1 bc1 : Nat) (w : World) (hg1 : g1 < w.heap.size) (hg2 : g2 < w.heap.size)
    (h1 : w.cell? ⟨g1, 0, none⟩ = some (.slice ap0 an0 ac0) ∧ w.cell? ⟨g1, 1, none⟩ = some (.slice ap1 an1 ac1)) (h2 : w.cell? ⟨g2, 0, none⟩ = some (.slice bp0 bn0 bc0) ∧ w.cell? ⟨g2, 1, none⟩ = some (.slice bp1 bn1 bc1))
    (hP : ∀ W, Below w.heap.size w W → Calls Tryz.prog k #[.agg #[.slice ap0 an0 ac0, .slice ap1 an1 ac1], .agg #[.slice bp0 bn0 bc0, .slice bp1 bn1 bc1]] W fun e w' => e = .returned (.bool r) ∧ Below W.heap.size W w') :
    Calls Tryz.prog 74 #[.slice (some ⟨g1, 0, none⟩) 1 d1, .slice (some ⟨g2, 0, none⟩) 1 d2, .func (.func k) #[] #[]] w fun e w' => e = .returned (.bool r) ∧ Below w.heap.size w w' := by
  have HP := fun W h => hid (hP W h)
  obtain ⟨x0, x1⟩ := h1
  obtain ⟨y0, y1⟩ := h2
  clear hP
  go_enter Tryz.func74, Tryz.ntmps74
  go_wp2
  go_loopw [17] (fun vi wr => (vi = .int .i64 0 ∧ wr = w) ∨ (vi = .int .i64 1 ∧ Hid (r = true ∧ Below w.heap.size w wr))) (fun vi _ => (1 - intOf vi).toNat)
  case atStart => exact .inl ⟨rfl, rfl⟩
  case round =>
    rcases hrel with ⟨rfl, rfl⟩ | ⟨rfl, HI⟩
    · have HB2 := hid (((Below.refl wr.heap.size wr).alloc (Nat.le_refl _) (.cells #[.slice ap0 an0 ac0, .slice ap1 an1 ac1] 56)).alloc (by rw [size_al]; omega) (.cells #[.slice bp0 bn0 bc0, .slice bp1 bn1 bc1] 56))
      have hq1 : wr.heap.size ≠ g1 := by omega
      have hq2 : wr.heap.size ≠ g2 := by omega
      have z0 := (((Below.refl wr.heap.size wr).alloc (Nat.le_refl _) (.cells #[.slice ap0 an0 ac0, .slice ap1 an1 ac1] 56)).cell (p := ⟨g2, 0, none⟩) hg2).trans y0
      have z1 := (((Below.refl wr.heap.size wr).alloc (Nat.le_refl _) (.cells #[.slice ap0 an0 ac0, .slice ap1 an1 ac1] 56)).cell (p := ⟨g2, 1, none⟩) hg2).trans y1
      cases r with
      | false =>
        go_wp2_with (go_at_fn k; (with_reducible refine (HP _ HB2.out).out.mono ?_); rintro e w3 ⟨rfl, hb3⟩; have HB3 := hid (HB2.out.trans (hb3.mono HB2.out.size)); clear hb3)
        go_ret
        exact ⟨rfl, HB3.out⟩
      | true =>
        go_wp2_with (go_at_fn k; (with_reducible refine (HP _ HB2.out).out.mono ?_); rintro e w3 ⟨rfl, hb3⟩; have HB3 := hid (HB2.out.trans (hb3.mono HB2.out.size)); clear hb3)
        go_roundw
        case rel => exact .inr ⟨rfl, (by first | exact ⟨rfl, HB3.out⟩ | exact ⟨trivial, HB3.out⟩)⟩
        case measure => simp [intOf]
    · obtain ⟨rfl, hb⟩ := HI.out
      have HB := hid hb
      clear hb HI
      go_wp2
      go_ret
      exact ⟨rfl, HB.out⟩
set_option maxHeartbeats 4000000 in
theorem eqf_code (k : Nat) (eg : ∀ args w, (callFunc k args).run Tryz.prog w = .ok (.enter k args) w) (r : Bool) (g1 g2 d1 d2 : Nat) (at0 : Int) (ap1 : Option Addr) (an1 ac1 : Nat) (ap2 : Option Addr) (an2 ac2 : Nat) (bt0 : Int) (bp1 : Option Addr) (bn1 bc1 : Nat) (bp2 : Option Addr) (bn2 bc2 : Nat) (w : World) (hg1 : g1 < w.heap.size) (hg2 : g2 < w.heap.size)
    (h1 : w.cell? ⟨g1, 0, none⟩ = some (.int .i64 at0) ∧ w.cell? ⟨g1, 1, none⟩ = some (.slice ap1 an1 ac1) ∧ w.cell? ⟨g1, 2, none⟩ = some (.slice ap2 an2 ac2)) (h2 : w.cell? ⟨g2, 0, none⟩ = some (.int .i64 bt0) ∧ w.cell? ⟨g2, 1, none⟩ = some (.slice bp1 bn1 bc1) ∧ w.cell? ⟨g2, 2, none⟩ = some (.slice bp2 bn2 bc2))
    (hP : ∀ W, Below w.heap.size w W → Calls Tryz.prog k #[.agg #[.int .i64 at0, .slice ap1 an1 ac1, .slice ap2 an2 ac2], .agg #[.int .i64 bt0, .slice bp1 bn1 bc1, .slice bp2 bn2 bc2]] W fun e w' => e = .returned (.bool r) ∧ Below W.heap.size W w') :
    Calls Tryz.prog 77 #[.slice (some ⟨g1, 0, none⟩) 1 d1, .slice (some ⟨g2, 0, none⟩) 1 d2, .func (.func k) #[] #[]] w fun e w' => e = .returned (.bool r) ∧ Below w.heap.size w w' := by
  have HP := fun W h => hid (hP W h)
  obtain ⟨x0, x1, x2⟩ := h1
  obtain ⟨y0, y1, y2⟩ := h2
  clear hP
  go_enter Tryz.func77, Tryz.ntmps77
  go_wp2
  go_loopw [17] (fun vi wr => (vi = .int .i64 0 ∧ wr = w) ∨ (vi = .int .i64 1 ∧ Hid (r = true ∧ Below w.heap.size w wr))) (fun vi _ => (1 - intOf vi).toNat)
  case atStart => exact .inl ⟨rfl, rfl⟩
  case round =>
    rcases hrel with ⟨rfl, rfl⟩ | ⟨rfl, HI⟩
    · have HB2 := hid (((Below.refl wr.heap.size wr).alloc (Nat.le_refl _) (.cells #[.int .i64 at0, .slice ap1 an1 ac1, .slice ap2 an2 ac2] 42)).alloc (by rw [size_al]; omega) (.cells #[.int .i64 bt0, .slice bp1 bn1 bc1, .slice bp2 bn2 bc2] 42))
      have hq1 : wr.heap.size ≠ g1 := by omega
      have hq2 : wr.heap.size ≠ g2 := by omega
      have z0 := (((Below.refl wr.heap.size wr).alloc (Nat.le_refl _) (.cells #[.int .i64 at0, .slice ap1 an1 ac1, .slice ap2 an2 ac2] 42)).cell (p := ⟨g2, 0, none⟩) hg2).trans y0
      have z1 := (((Below.refl wr.heap.size wr).alloc (Nat.le_refl _) (.cells #[.int .i64 at0, .slice ap1 an1 ac1, .slice ap2 an2 ac2] 42)).cell (p := ⟨g2, 1, none⟩) hg2).trans y1
      have z2 := (((Below.refl wr.heap.size wr).alloc (Nat.le_refl _) (.cells #[.int .i64 at0, .slice ap1 an1 ac1, .slice ap2 an2 ac2] 42)).cell (p := ⟨g2, 2, none⟩) hg2).trans y2
      cases r with
      | false =>
        go_wp2_with (go_at_fn k; (with_reducible refine (HP _ HB2.out).out.mono ?_); rintro e w3 ⟨rfl, hb3⟩; have HB3 := hid (HB2.out.trans (hb3.mono HB2.out.size)); clear hb3)
        go_ret
        exact ⟨rfl, HB3.out⟩
      | true =>
        go_wp2_with (go_at_fn k; (with_reducible refine (HP _ HB2.out).out.mono ?_); rintro e w3 ⟨rfl, hb3⟩; have HB3 := hid (HB2.out.trans (hb3.mono HB2.out.size)); clear hb3)
        go_roundw
        case rel => exact .inr ⟨rfl, (by first | exact ⟨rfl, HB3.out⟩ | exact ⟨trivial, HB3.out⟩)⟩
        case measure => simp [intOf]
    · obtain ⟨rfl, hb⟩ := HI.out
      have HB := hid hb
      clear hb HI
      go_wp2
      go_ret
      exact ⟨rfl, HB.out⟩
end Go.Proofs.YteianbgampljeaaGreat
