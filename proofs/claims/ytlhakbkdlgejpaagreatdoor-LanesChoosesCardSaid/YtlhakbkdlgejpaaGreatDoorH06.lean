/-
  LEach, LArg, LVec, RHas: merged, what the law does not reach left out (each text says what it holds where it lies in wip). No condition.
-/
import Derived.Test.YtlhakbkdlgejpaaGreatDoorH05
import Derived.Test.YtlhakbkdlgejpaaGreatDoorH01
import Derived.Deep.DeepCutAuto
import Derived.Deep.RegionHeld3
import Derived.Test.YtlhakbkdlgejpaaGreatDoorH03
set_option linter.unusedSimpArgs false
set_option linter.unusedVariables false
set_option maxRecDepth 100000
namespace Go.Proofs.YtlhakbkdlgejpaaGreatDoor
open Go.RowKit
/-- n numbers in new memory, of which the first i are laid. -/
def EInv (w : World) (g2 n : Nat) (F : Nat → Nat) (i : Nat) (wr : World) : Prop :=
  wr.ownsRow w.heap.size 22 1 (.slice (some ⟨g2, 0, none⟩) n n) n (fc n (fun j => if j < i then F j else 0)) ∧ Below w.heap.size w wr ∧ w.heap.size ≤ g2 ∧ g2 < wr.heap.size
theorem EInv.start {w w2 : World} {n : Nat} {F : Nat → Nat} (hown2 : w2.ownsRow w.heap.size 22 1 (.slice (some ⟨w.heap.size, 0, none⟩) n n) n (madeCells (Value.int .u64 0).cells (n * 1)).toList) (hg2 : w.grownBy w2 none) : EInv w w.heap.size n F 0 w2 := by
  refine ⟨?_, (Below.refl _ w).grown hg2 (Nat.le_refl _) (by simp), Nat.le_refl _, (hown2.lt w.heap.size rfl).2⟩
  have e : (madeCells (Value.int .u64 0).cells (n * 1)).toList = fc n (fun j => if j < 0 then F j else 0) := by
    rw [Nat.mul_one, show (Value.int .u64 0).cells = #[Value.int .u64 0] from rfl, toList_madeCells_one]
    apply List.ext_getElem?
    intro j
    by_cases hj : j < n
    · rw [fc_get hj]; simp [hj]
    · simp [fc, hj]
  rw [e] at hown2
  exact hown2
theorem EInv.call {w W W' : World} {g2 n i : Nat} {F : Nat → Nat} (h : EInv w g2 n F i W) (hb : Below W.heap.size W W') : EInv w g2 n F i W' :=
  ⟨own_below h.1 hb (Nat.le_refl _), h.2.1.trans (hb.mono h.2.1.size), h.2.2.1, Nat.lt_of_lt_of_le h.2.2.2 hb.size⟩
theorem EInv.drew {w W : World} {g2 n i : Nat} {F : Nat → Nat} (h : EInv w g2 n F i W) : EInv w g2 n F i W.drew := ⟨h.1, h.2.1.drew, h.2.2.1, h.2.2.2⟩
theorem EInv.next {w W : World} {g2 n i : Nat} {F : Nat → Nat} (h : EInv w g2 n F i W) : EInv w g2 n F (i + 1) (W.setCell ⟨g2, i, none⟩ (.int .u64 (F i : Nat))) := by
  obtain ⟨h4, h5, h2, h6⟩ := h
  refine ⟨?_, h5.setCell (p := ⟨g2, i, none⟩) h2 _, h2, by simpa using h6⟩
  have := (h4.stored i (.int .u64 (F i : Nat))).1
  rw [fc_set] at this
  rw [fc_congr (g := fun j => if j = i then F i else if j < i then F j else 0) (fun j _ => by
    by_cases hji : j = i
    · subst hji; simp
    · by_cases hlt : j < i
      · simp [hji, hlt, show j < i + 1 by omega]
      · simp [hji, hlt, show ¬ j < i + 1 by omega])]
  exact this
theorem EInv.cells {w W : World} {g2 n i : Nat} {F : Nat → Nat} (h : EInv w g2 n F i W) (hi : i < n) : W.cell? ⟨g2, i, none⟩ = some (.int .u64 0) ∧ W.frozen? ⟨g2, i, none⟩ = false := by
  obtain ⟨h4, h5, h2, h6⟩ := h
  refine ⟨?_, h4.frozenAt i⟩
  rw [h4.cellAt i (by omega), fc_get hi]
  simp
theorem EInv.end {w W : World} {g2 n i : Nat} {F : Nat → Nat} (h : EInv w g2 n F i W) (hi : n ≤ i) : W.ownsRow w.heap.size 22 1 (.slice (some ⟨g2, 0, none⟩) n n) n (fc n F) ∧ Below w.heap.size w W := by
  refine ⟨?_, h.2.1⟩
  rw [fc_congr (g := fun j => if j < i then F j else 0) (fun j hj => by simp [show j < i by omega])]
  exact h.1
set_option maxHeartbeats 4000000 in
set_option maxRecDepth 100000 in
theorem each_says (g : Nat) (lb : Array Value) (f : Nat → Nat → Nat) (w : World) (hD : Does g lb f w) (eg : Enters Tryz.prog g) (n : Nat) (hn : n ≤ 16) (va vb : Value) (F G : Nat → Nat)
    (ha : RowAt w va n F) (hb : RowAt w vb n G) (hF : ∀ i, i < n → F i < 18446744073709551616) (hG : ∀ i, i < n → G i < 18446744073709551616) :
    Calls Tryz.prog 71 #[.func (.func g) #[] lb, va, vb] w (LPost w n (fun i => f (F i) (G i))) := by
  obtain ⟨i0, hi, hz0, hz1, hz2⟩ := info_parts info22
  obtain ⟨ga, oa, ca, rfl, hga, hca, hata⟩ := ha
  obtain ⟨gb, ob, cb, rfl, hgb, hcb, hatb⟩ := hb
  have eg2 : ∀ args w, (callFunc g args).run Tryz.prog w = .ok (.enter g args) w := eg
  obtain ⟨R, hR⟩ : ∃ R : Nat → Nat, R = fun i => f (F i) (G i) := ⟨_, rfl⟩
  have HA := hid hata
  have HB := hid hatb
  have HF := hid hF
  have HG := hid hG
  have HD : Hid (∀ i, i < n → ∀ W, Below w.heap.size w W → Calls Tryz.prog g (#[.int .u64 (F i : Nat), .int .u64 (G i : Nat)] ++ lb) W fun e w' => e = .returned (.int .u64 (R i : Nat)) ∧ Below W.heap.size W w') := by
    intro i hi W hW
    rw [hR]
    exact hD W (F i) (G i) hW (hF i hi) (hG i hi)
  rw [← hR]
  clear hata hatb hF hG hD hR
  go_enter Tryz.func71, Tryz.ntmps71
  go_wp2_with (at_make; refine wpList_make_full _ rfl _ _ 40 rfl w.heap.size 22 i0 (.int .u64 0) 1 Tryz.underlying40 hi hz0 hz1 .i64 .i64 _ _ n rfl rfl rfl rfl (by rw [hz2]; omega) (by unfold maxLen; omega) (Nat.le_refl _) ?_; intro w2 hown2 hgrow2)
  have HS := hid (EInv.start (F := R) hown2 hgrow2)
  clear hown2 hgrow2
  go_loopw [14] (fun vi wr => ∃ i : Nat, i ≤ n ∧ vi = .int .i64 i ∧ Hid (EInv w w.heap.size n R i wr)) (fun vi _ => n - (intOf vi).toNat)
  case atStart => exact ⟨0, Nat.zero_le _, rfl, HS⟩
  case round =>
    obtain ⟨i, hin, rfl, HI⟩ := hrel
    by_cases hlt : i < n
    · have HLT := hid hlt
      go_upto_region 5 with fail
      have HJW := HI.out.drew
      have hS := HJW.2.1
      refine wp_region_held_drew (S := Below w.heap.size w) (by kernel_rfl) hS (fun _ => ?_)
      generalize wr.drew = W at *
      refine wpAnyH_take (oi := ⟨_, _, _, _, _, _⟩) (i := 0) (v := .slice (some ⟨w.heap.size, 0, none⟩) n n) rfl (by kernel_rfl) (by kernel_rfl) (by kernel_rfl) (fun _ _ _ h => h) (Or.inl ⟨by rfl, ?_⟩) (by assumption) ?_
      · (intro W hSw; have x1 := (hSw.cell (p := ⟨ga, oa + i, none⟩) hga).trans (HA.out i hlt).1; have x2 := (hSw.cell (p := ⟨gb, ob + i, none⟩) hgb).trans (HB.out i hlt).1; go_simp; try (with_reducible rfl))
      try simp only [Act.put, List.setIfInBounds_toArray, List.set_cons_zero, List.set_cons_succ]
      refine wpAnyH_take (oi := ⟨_, _, _, _, _, _⟩) (i := 1) (v := .int .i64 i) rfl (by kernel_rfl) (by kernel_rfl) (by kernel_rfl) (fun _ _ _ h => h) (Or.inl ⟨by rfl, ?_⟩) (by assumption) ?_
      · (intro W hSw; have x1 := (hSw.cell (p := ⟨ga, oa + i, none⟩) hga).trans (HA.out i hlt).1; have x2 := (hSw.cell (p := ⟨gb, ob + i, none⟩) hgb).trans (HB.out i hlt).1; go_simp; try (with_reducible rfl))
      try simp only [Act.put, List.setIfInBounds_toArray, List.set_cons_zero, List.set_cons_succ]
      refine wpAnyH_take (oi := ⟨_, _, _, _, _, _⟩) (i := 2) (v := .func (.func g) #[] lb) rfl (by kernel_rfl) (by kernel_rfl) (by kernel_rfl) (fun _ _ _ h => h) (Or.inl ⟨by rfl, ?_⟩) (by assumption) ?_
      · (intro W hSw; have x1 := (hSw.cell (p := ⟨ga, oa + i, none⟩) hga).trans (HA.out i hlt).1; have x2 := (hSw.cell (p := ⟨gb, ob + i, none⟩) hgb).trans (HB.out i hlt).1; go_simp; try (with_reducible rfl))
      try simp only [Act.put, List.setIfInBounds_toArray, List.set_cons_zero, List.set_cons_succ]
      refine wpAnyH_take (oi := ⟨_, _, _, _, _, _⟩) (i := 3) (v := .slice (some ⟨ga, oa, none⟩) n ca) rfl (by kernel_rfl) (by kernel_rfl) (by kernel_rfl) (fun _ _ _ h => h) (Or.inl ⟨by rfl, ?_⟩) (by assumption) ?_
      · (intro W hSw; have x1 := (hSw.cell (p := ⟨ga, oa + i, none⟩) hga).trans (HA.out i hlt).1; have x2 := (hSw.cell (p := ⟨gb, ob + i, none⟩) hgb).trans (HB.out i hlt).1; go_simp; try (with_reducible rfl))
      try simp only [Act.put, List.setIfInBounds_toArray, List.set_cons_zero, List.set_cons_succ]
      refine wpAnyH_take (oi := ⟨_, _, _, _, _, _⟩) (i := 4) (v := .int .i64 i) rfl (by kernel_rfl) (by kernel_rfl) (by kernel_rfl) (fun _ _ _ h => h) (Or.inl ⟨by rfl, ?_⟩) (by assumption) ?_
      · (intro W hSw; have x1 := (hSw.cell (p := ⟨ga, oa + i, none⟩) hga).trans (HA.out i hlt).1; have x2 := (hSw.cell (p := ⟨gb, ob + i, none⟩) hgb).trans (HB.out i hlt).1; go_simp; try (with_reducible rfl))
      try simp only [Act.put, List.setIfInBounds_toArray, List.set_cons_zero, List.set_cons_succ]
      refine wpAnyH_take (oi := ⟨_, _, _, _, _, _⟩) (i := 5) (v := .pointer (some ⟨ga, oa + i, none⟩)) rfl (by kernel_rfl) (by kernel_rfl) (by kernel_rfl) (fun _ _ _ h => h) (Or.inl ⟨by rfl, ?_⟩) (by assumption) ?_
      · (intro W hSw; have x1 := (hSw.cell (p := ⟨ga, oa + i, none⟩) hga).trans (HA.out i hlt).1; have x2 := (hSw.cell (p := ⟨gb, ob + i, none⟩) hgb).trans (HB.out i hlt).1; go_simp; try (with_reducible rfl))
      try simp only [Act.put, List.setIfInBounds_toArray, List.set_cons_zero, List.set_cons_succ]
      refine wpAnyH_take (oi := ⟨_, _, _, _, _, _⟩) (i := 6) (v := .int .u64 (F i : Nat)) rfl (by kernel_rfl) (by kernel_rfl) (by kernel_rfl) (fun _ _ _ h => h) (Or.inl ⟨by rfl, ?_⟩) (by assumption) ?_
      · (intro W hSw; have x1 := (hSw.cell (p := ⟨ga, oa + i, none⟩) hga).trans (HA.out i hlt).1; have x2 := (hSw.cell (p := ⟨gb, ob + i, none⟩) hgb).trans (HB.out i hlt).1; go_simp; try (with_reducible rfl))
      try simp only [Act.put, List.setIfInBounds_toArray, List.set_cons_zero, List.set_cons_succ]
      refine wpAnyH_take (oi := ⟨_, _, _, _, _, _⟩) (i := 7) (v := .slice (some ⟨gb, ob, none⟩) n cb) rfl (by kernel_rfl) (by kernel_rfl) (by kernel_rfl) (fun _ _ _ h => h) (Or.inl ⟨by rfl, ?_⟩) (by assumption) ?_
      · (intro W hSw; have x1 := (hSw.cell (p := ⟨ga, oa + i, none⟩) hga).trans (HA.out i hlt).1; have x2 := (hSw.cell (p := ⟨gb, ob + i, none⟩) hgb).trans (HB.out i hlt).1; go_simp; try (with_reducible rfl))
      try simp only [Act.put, List.setIfInBounds_toArray, List.set_cons_zero, List.set_cons_succ]
      refine wpAnyH_take (oi := ⟨_, _, _, _, _, _⟩) (i := 8) (v := .int .i64 i) rfl (by kernel_rfl) (by kernel_rfl) (by kernel_rfl) (fun _ _ _ h => h) (Or.inl ⟨by rfl, ?_⟩) (by assumption) ?_
      · (intro W hSw; have x1 := (hSw.cell (p := ⟨ga, oa + i, none⟩) hga).trans (HA.out i hlt).1; have x2 := (hSw.cell (p := ⟨gb, ob + i, none⟩) hgb).trans (HB.out i hlt).1; go_simp; try (with_reducible rfl))
      try simp only [Act.put, List.setIfInBounds_toArray, List.set_cons_zero, List.set_cons_succ]
      refine wpAnyH_take (oi := ⟨_, _, _, _, _, _⟩) (i := 9) (v := .pointer (some ⟨gb, ob + i, none⟩)) rfl (by kernel_rfl) (by kernel_rfl) (by kernel_rfl) (fun _ _ _ h => h) (Or.inl ⟨by rfl, ?_⟩) (by assumption) ?_
      · (intro W hSw; have x1 := (hSw.cell (p := ⟨ga, oa + i, none⟩) hga).trans (HA.out i hlt).1; have x2 := (hSw.cell (p := ⟨gb, ob + i, none⟩) hgb).trans (HB.out i hlt).1; go_simp; try (with_reducible rfl))
      try simp only [Act.put, List.setIfInBounds_toArray, List.set_cons_zero, List.set_cons_succ]
      refine wpAnyH_take (oi := ⟨_, _, _, _, _, _⟩) (i := 10) (v := .int .u64 (G i : Nat)) rfl (by kernel_rfl) (by kernel_rfl) (by kernel_rfl) (fun _ _ _ h => h) (Or.inl ⟨by rfl, ?_⟩) (by assumption) ?_
      · (intro W hSw; have x1 := (hSw.cell (p := ⟨ga, oa + i, none⟩) hga).trans (HA.out i hlt).1; have x2 := (hSw.cell (p := ⟨gb, ob + i, none⟩) hgb).trans (HB.out i hlt).1; go_simp; try (with_reducible rfl))
      try simp only [Act.put, List.setIfInBounds_toArray, List.set_cons_zero, List.set_cons_succ]
      refine wpAnyH_ready (rs := [11]) (by kernel_rfl) (by simp) ?_
      refine AllReadyH.cons (o := ⟨_, _, _, _, _, _⟩) rfl (fun K hK => ?_) ?_
      · go_simp
        go_at_fn g
        (with_reducible refine (HD.out i hlt _ hS).mono ?_)
        rintro e W1 ⟨rfl, hb⟩
        replace hS := hS.trans (hb.mono hS.size)
        replace HJW := HJW.call hb
        clear hb
        refine hK.out _ _ hS (fun _ => ?_)
        clear hK K
        try simp only [Act.put, List.setIfInBounds_toArray, List.set_cons_zero, List.set_cons_succ]
        refine wpAnyH_take (oi := ⟨_, _, _, _, _, _⟩) (i := 12) (v := .pointer (some ⟨w.heap.size, i, none⟩)) rfl (by kernel_rfl) (by kernel_rfl) (by kernel_rfl) (fun _ _ _ h => h) (Or.inl ⟨by rfl, ?_⟩) (by assumption) ?_
        · (intro W hSw; have x1 := (hSw.cell (p := ⟨ga, oa + i, none⟩) hga).trans (HA.out i hlt).1; have x2 := (hSw.cell (p := ⟨gb, ob + i, none⟩) hgb).trans (HB.out i hlt).1; go_simp; try (with_reducible rfl))
        try simp only [Act.put, List.setIfInBounds_toArray, List.set_cons_zero, List.set_cons_succ]
        refine wpAnyH_ready (rs := [13]) (by kernel_rfl) (by simp) ?_
        refine AllReadyH.cons (o := ⟨_, _, _, _, _, _⟩) rfl (fun K hK => ?_) ?_
        · obtain ⟨z0, z1⟩ := HJW.cells hlt
          go_simp
          clear z0 z1
          replace HJW := HJW.next
          refine hK.out _ _ HJW.2.1 (fun _ => ?_)
          clear hK K
          try simp only [Act.put, List.setIfInBounds_toArray, List.set_cons_zero, List.set_cons_succ]
          refine wpAnyH_done (by kernel_rfl) ?_ _
          go_wp2_with fail
          go_roundw
          case rel => exact ⟨i + 1, HLT.out, by go_num, HJW⟩
          case measure => (simp [intOf]; have := HLT.out; omega)
        exact AllReadyH.nil
      exact AllReadyH.nil
    · obtain rfl : i = n := by omega
      have HE := hid (HI.out.end (Nat.le_refl _))
      go_wp2
      go_ret
      exact ⟨_, rfl, HE.out.1, HE.out.2⟩
end Go.Proofs.YtlhakbkdlgejpaaGreatDoor
namespace Go.Proofs.YtlhakbkdlgejpaaGreatDoor
open Go.RowKit
abbrev Av := Int × Nat × Nat × Bool
/-- A slice of values. -/
def AR (w : World) (va : Value) (l : List Av) : Prop :=
  ∃ g cap, va = .slice (some ⟨g, 0, none⟩) l.length cap ∧ g < w.heap.size ∧ l.length ≤ cap ∧ ∀ (j : Nat) (a : Av), l[j]? = some a →
    w.cell? ⟨g, j * 4, none⟩ = some (.int .i64 a.1) ∧ w.cell? ⟨g, j * 4 + 1, none⟩ = some (.int .u64 (a.2.1 : Nat)) ∧ w.cell? ⟨g, j * 4 + 2, none⟩ = some (.int .u64 (a.2.2.1 : Nat)) ∧ w.cell? ⟨g, j * 4 + 3, none⟩ = some (.bool a.2.2.2)
theorem AR.call {w w' : World} {va : Value} {l : List Av} (h : AR w va l) (hb : Below w.heap.size w w') : AR w' va l := by
  obtain ⟨g, cap, e, hl, hc, ha⟩ := h
  refine ⟨g, cap, e, Nat.lt_of_lt_of_le hl hb.size, hc, fun j a hj => ?_⟩
  obtain ⟨h0, h1, h2, h3⟩ := ha j a hj
  exact ⟨by rw [hb.cell (p := ⟨g, j * 4, none⟩) hl, h0], by rw [hb.cell (p := ⟨g, j * 4 + 1, none⟩) hl, h1], by rw [hb.cell (p := ⟨g, j * 4 + 2, none⟩) hl, h2], by rw [hb.cell (p := ⟨g, j * 4 + 3, none⟩) hl, h3]⟩
theorem LPost.mono0 {w w1 w' : World} {n : Nat} {F : Nat → Nat} {e : Ending} (hb : Below w.heap.size w w1) (h : LPost w1 n F e w') : LPost w n F e w' := by
  obtain ⟨v, rfl, ho, hb2⟩ := h
  exact ⟨v, rfl, own_mono ho hb.size, hb.trans (hb2.mono hb.size)⟩
theorem fc_zero (n : Nat) : fc n (fun _ => 0) = (madeCells (Value.int .u64 0).cells (n * 1)).toList := by
  rw [Nat.mul_one, show (Value.int .u64 0).cells = #[Value.int .u64 0] from rfl, toList_madeCells_one]
  apply List.ext_getElem?
  intro j
  by_cases hj : j < n
  · rw [fc_get hj]; simp [hj]
  · simp [fc, hj]
set_option maxHeartbeats 2000000 in
set_option maxRecDepth 100000 in
theorem operand_none (vb : List UInt8) (ff : Bool) (n : Nat) (hn : Okn n) (tf : Bool) (tb : Int) (sg : Bool) (va : Value) (l : List Av) (i : Nat) (hi : l.length ≤ i) (w : World) (ha : AR w va l) :
    Calls Tryz.prog 64 #[insV vb ff n tf tb sg, va, .int .i64 i] w (LPost w (cnt n) (fun _ => 0)) := by
  obtain ⟨i0, hi0, hz0, hz1, hz2⟩ := info_parts info22
  obtain ⟨g, cap, rfl, hg, hcap, hat⟩ := ha
  have HC := fun W => hid (lcount_any n hn W)
  have hc16 : cnt n ≤ 16 := by rcases hn.cases with ⟨_, _, h⟩ | ⟨_, _, h⟩ | ⟨_, _, h⟩ | ⟨_, _, h⟩ <;> omega
  generalize cnt n = c at *
  obtain ⟨m, hm⟩ : ∃ m, m = l.length := ⟨_, rfl⟩
  rw [← hm] at hi hcap ⊢
  unfold insV
  generalize str vb = s
  have hge : (m : Int) ≤ (i : Int) := by omega
  clear hat hn hm
  go_enter Tryz.func64, Tryz.ntmps64
  go_wp2_with (first
    | (go_at_call 52; refine (HC _).out.mono ?_; rintro e w2 ⟨rfl, rfl⟩)
    | (at_make; refine wpList_make_full _ rfl _ _ 40 rfl w.heap.size 22 i0 (.int .u64 0) 1 Tryz.underlying40 hi0 hz0 hz1 .i64 .i64 _ _ c rfl rfl rfl rfl (by rw [hz2]; omega) (by unfold maxLen; omega) (by simp) ?_; intro w3 hown3 hgrow3))
  go_ret
  rw [size_al] at hown3
  exact ⟨.slice (some ⟨w.heap.size + 1, 0, none⟩) c c, rfl, by rw [fc_zero]; exact hown3, ((Below.refl w.heap.size w).alloc (Nat.le_refl _) _).grown hgrow3 (by simp) (by simp)⟩
set_option maxHeartbeats 2000000 in
set_option maxRecDepth 100000 in
theorem operand_v (vb : List UInt8) (ff : Bool) (n : Nat) (hn : Okn n) (tf : Bool) (tb : Int) (sg : Bool) (va : Value) (l : List Av) (i : Nat) (lo hi : Nat) (nl : Bool) (hi' : l[i]? = some (123, lo, hi, nl)) (hlo : lo < 18446744073709551616) (hhi : hi < 18446744073709551616) (w : World) (ha : AR w va l) :
    Calls Tryz.prog 64 #[insV vb ff n tf tb sg, va, .int .i64 i] w (LPost w (cnt n) (splitF n lo hi)) := by
  obtain ⟨g, cap, rfl, hg, hcap, hat⟩ := ha
  obtain ⟨h0, h1, h2, h3⟩ := hat i _ hi'
  have hlt : i < l.length := (List.getElem?_eq_some_iff.1 hi').1
  have HS := fun W => hid (Split_says n hn 123 lo hi nl hlo hhi W)
  unfold vv at HS
  obtain ⟨m, hm⟩ : ∃ m, m = l.length := ⟨_, rfl⟩
  rw [← hm] at hlt hcap ⊢
  unfold insV
  generalize str vb = s
  simp only [] at h0 h1 h2 h3
  clear hat hn hm hi'
  go_enter Tryz.func64, Tryz.ntmps64
  go_wp2_with (first
    | (go_at_call 28; refine (HS _).out.mono ?_; rintro e w2 ⟨v2, rfl, ho2, hb2⟩))
  go_ret
  exact LPost.mono0 ((Below.refl w.heap.size w).alloc (Nat.le_refl _) _) ⟨v2, rfl, ho2, hb2⟩
end Go.Proofs.YtlhakbkdlgejpaaGreatDoor
namespace Go.Proofs.YtlhakbkdlgejpaaGreatDoor
open Go.RowKit
/-- The verb has no way of its own. -/
def eachV (vb : List UInt8) : Bool := !(vb == [115, 112, 108, 97, 116]) && !(vb == [114, 101, 112, 108, 97, 99, 101, 95, 108, 97, 110, 101]) && !(vb == [115, 104, 117, 102, 102, 108, 101]) && !(vb == [115, 119, 105, 122, 122, 108, 101]) && !(vb == [98, 105, 116, 115, 101, 108, 101, 99, 116]) && !(vb == [110, 97, 114, 114, 111, 119]) && !(vb == [101, 120, 116, 101, 110, 100, 95, 108, 111, 119]) && !(vb == [101, 120, 116, 101, 110, 100, 95, 104, 105, 103, 104]) && !(vb == [101, 120, 116, 109, 117, 108, 95, 108, 111, 119]) && !(vb == [101, 120, 116, 109, 117, 108, 95, 104, 105, 103, 104]) && !(vb == [101, 120, 116, 97, 100, 100, 95, 112, 97, 105, 114, 119, 105, 115, 101]) && !(vb == [100, 111, 116]) && !(vb == [116, 114, 117, 110, 99, 95, 115, 97, 116]) && !(vb == [99, 111, 110, 118, 101, 114, 116]) && !(vb == [99, 111, 110, 118, 101, 114, 116, 95, 108, 111, 119]) && !(vb == [100, 101, 109, 111, 116, 101]) && !(vb == [112, 114, 111, 109, 111, 116, 101, 95, 108, 111, 119])
set_option maxHeartbeats 4000000 in
set_option maxRecDepth 100000 in
theorem vector_each (vb : List UInt8) (ff : Bool) (fb : Int) (tf : Bool) (tb : Int) (sg : Bool) (hv : eachV vb = true) (vi va : Value) (c : Nat) (hc1 : 1 ≤ c) (hc : c ≤ 16) (F G : Nat → Nat) (f : Nat → Nat → Nat) (w : World)
    (H0 : ∀ W, Below w.heap.size w W → Calls Tryz.prog 64 #[insV vb ff fb tf tb sg, va, .int .i64 0] W (LPost W c F))
    (H1 : ∀ W, Below w.heap.size w W → Calls Tryz.prog 64 #[insV vb ff fb tf tb sg, va, .int .i64 1] W (LPost W c G))
    (HO : ∀ W, Calls Tryz.prog 72 #[insV vb ff fb tf tb sg] W (FnPost W f)) (hF : ∀ i, i < c → F i < 18446744073709551616) (hG : ∀ i, i < c → G i < 18446744073709551616) :
    Calls Tryz.prog 34 #[insV vb ff fb tf tb sg, vi, va] w (LPost w c (fun i => f (F i) (G i))) := by
  unfold eachV at hv
  simp only [Bool.and_eq_true, Bool.not_eq_true'] at hv
  obtain ⟨⟨⟨⟨⟨⟨⟨⟨⟨⟨⟨⟨⟨⟨⟨⟨h0, h1⟩, h2⟩, h3⟩, h4⟩, h5⟩, h6⟩, h7⟩, h8⟩, h9⟩, h10⟩, h11⟩, h12⟩, h13⟩, h14⟩, h15⟩, h16⟩ := hv
  unfold insV at H0 H1 HO ⊢
  obtain ⟨s, hs⟩ : ∃ s, s = str vb := ⟨_, rfl⟩
  rw [← hs] at H0 H1 HO ⊢
  have q0 : (s.toList == [115, 112, 108, 97, 116]) = false := by rw [hs, str_list]; exact h0
  have q1 : (s.toList == [114, 101, 112, 108, 97, 99, 101, 95, 108, 97, 110, 101]) = false := by rw [hs, str_list]; exact h1
  have q2 : (s.toList == [115, 104, 117, 102, 102, 108, 101]) = false := by rw [hs, str_list]; exact h2
  have q3 : (s.toList == [115, 119, 105, 122, 122, 108, 101]) = false := by rw [hs, str_list]; exact h3
  have q4 : (s.toList == [98, 105, 116, 115, 101, 108, 101, 99, 116]) = false := by rw [hs, str_list]; exact h4
  have q5 : (s.toList == [110, 97, 114, 114, 111, 119]) = false := by rw [hs, str_list]; exact h5
  have q6 : (s.toList == [101, 120, 116, 101, 110, 100, 95, 108, 111, 119]) = false := by rw [hs, str_list]; exact h6
  have q7 : (s.toList == [101, 120, 116, 101, 110, 100, 95, 104, 105, 103, 104]) = false := by rw [hs, str_list]; exact h7
  have q8 : (s.toList == [101, 120, 116, 109, 117, 108, 95, 108, 111, 119]) = false := by rw [hs, str_list]; exact h8
  have q9 : (s.toList == [101, 120, 116, 109, 117, 108, 95, 104, 105, 103, 104]) = false := by rw [hs, str_list]; exact h9
  have q10 : (s.toList == [101, 120, 116, 97, 100, 100, 95, 112, 97, 105, 114, 119, 105, 115, 101]) = false := by rw [hs, str_list]; exact h10
  have q11 : (s.toList == [100, 111, 116]) = false := by rw [hs, str_list]; exact h11
  have q12 : (s.toList == [116, 114, 117, 110, 99, 95, 115, 97, 116]) = false := by rw [hs, str_list]; exact h12
  have q13 : (s.toList == [99, 111, 110, 118, 101, 114, 116]) = false := by rw [hs, str_list]; exact h13
  have q14 : (s.toList == [99, 111, 110, 118, 101, 114, 116, 95, 108, 111, 119]) = false := by rw [hs, str_list]; exact h14
  have q15 : (s.toList == [100, 101, 109, 111, 116, 101]) = false := by rw [hs, str_list]; exact h15
  have q16 : (s.toList == [112, 114, 111, 109, 111, 116, 101, 95, 108, 111, 119]) = false := by rw [hs, str_list]; exact h16
  clear hs h0 h1 h2 h3 h4 h5 h6 h7 h8 h9 h10 h11 h12 h13 h14 h15 h16
  have HH0 := fun W h => hid (H0 W h)
  have HH1 := fun W h => hid (H1 W h)
  have HHO := fun W => hid (HO W)
  have HF := hid hF
  have HG := hid hG
  have HE : Hid (∀ (g : Nat) (lb : Array Value) (W : World) (v1 v2 : Value), Does g lb f W → Enters Tryz.prog g → RowAt W v1 c F → RowAt W v2 c G → Calls Tryz.prog 71 #[.func (.func g) #[] lb, v1, v2] W (LPost W c (fun i => f (F i) (G i)))) :=
    fun g lb W v1 v2 hd eg h1 h2 => each_says g lb f W hd eg c hc v1 v2 F G h1 h2 hF hG
  generalize (fun i => f (F i) (G i)) = R at *
  clear H0 H1 HO hF hG
  go_enter Tryz.func34, Tryz.ntmps34
  go_upto_region 1 with fail
  have hS : Below w.heap.size w (w.alloc (.cells #[.string s, .bool ff, .int .i64 fb, .bool tf, .int .i64 tb, .bool sg] 50)).drew ∧ CA w.heap.size #[.string s, .bool ff, .int .i64 fb, .bool tf, .int .i64 tb, .bool sg] 50 (w.alloc (.cells #[.string s, .bool ff, .int .i64 fb, .bool tf, .int .i64 tb, .bool sg] 50)).drew := ⟨((Below.refl _ w).alloc (Nat.le_refl _) _).drew, (CA.new w _ 50).drew⟩
  refine wp_region_held_drew (S := fun W => Below w.heap.size w W ∧ CA w.heap.size #[.string s, .bool ff, .int .i64 fb, .bool tf, .int .i64 tb, .bool sg] 50 W) (by kernel_rfl) hS (fun _ => ?_)
  generalize (w.alloc (.cells #[.string s, .bool ff, .int .i64 fb, .bool tf, .int .i64 tb, .bool sg] 50)).drew = W at *
  refine wpAnyH_take (oi := ⟨_, _, _, _, _, _⟩) (i := 0) (v := .agg #[.string s, .bool ff, .int .i64 fb, .bool tf, .int .i64 tb, .bool sg]) rfl (by kernel_rfl) (by kernel_rfl) (by kernel_rfl) (fun _ _ _ h => h) (Or.inl ⟨by rfl, ?_⟩) (by assumption) ?_
  · (intro W hSw; have x0 := hSw.2.at (k := 0) (v := .string s) rfl; have x1 := hSw.2.at (k := 1) (v := .bool ff) rfl; have x2 := hSw.2.at (k := 2) (v := .int .i64 fb) rfl; have x3 := hSw.2.at (k := 3) (v := .bool tf) rfl; have x4 := hSw.2.at (k := 4) (v := .int .i64 tb) rfl; have x5 := hSw.2.at (k := 5) (v := .bool sg) rfl; go_simp; try (with_reducible rfl))
  try simp only [Act.put, List.setIfInBounds_toArray, List.set_cons_zero, List.set_cons_succ]
  refine wpAnyH_take (oi := ⟨_, _, _, _, _, _⟩) (i := 1) (v := va) rfl (by kernel_rfl) (by kernel_rfl) (by kernel_rfl) (fun _ _ _ h => h) (Or.inl ⟨by rfl, ?_⟩) (by assumption) ?_
  · (intro W hSw; have x0 := hSw.2.at (k := 0) (v := .string s) rfl; have x1 := hSw.2.at (k := 1) (v := .bool ff) rfl; have x2 := hSw.2.at (k := 2) (v := .int .i64 fb) rfl; have x3 := hSw.2.at (k := 3) (v := .bool tf) rfl; have x4 := hSw.2.at (k := 4) (v := .int .i64 tb) rfl; have x5 := hSw.2.at (k := 5) (v := .bool sg) rfl; go_simp; try (with_reducible rfl))
  try simp only [Act.put, List.setIfInBounds_toArray, List.set_cons_zero, List.set_cons_succ]
  refine wpAnyH_take (oi := ⟨_, _, _, _, _, _⟩) (i := 3) (v := .agg #[.string s, .bool ff, .int .i64 fb, .bool tf, .int .i64 tb, .bool sg]) rfl (by kernel_rfl) (by kernel_rfl) (by kernel_rfl) (fun _ _ _ h => h) (Or.inl ⟨by rfl, ?_⟩) (by assumption) ?_
  · (intro W hSw; have x0 := hSw.2.at (k := 0) (v := .string s) rfl; have x1 := hSw.2.at (k := 1) (v := .bool ff) rfl; have x2 := hSw.2.at (k := 2) (v := .int .i64 fb) rfl; have x3 := hSw.2.at (k := 3) (v := .bool tf) rfl; have x4 := hSw.2.at (k := 4) (v := .int .i64 tb) rfl; have x5 := hSw.2.at (k := 5) (v := .bool sg) rfl; go_simp; try (with_reducible rfl))
  try simp only [Act.put, List.setIfInBounds_toArray, List.set_cons_zero, List.set_cons_succ]
  refine wpAnyH_take (oi := ⟨_, _, _, _, _, _⟩) (i := 4) (v := va) rfl (by kernel_rfl) (by kernel_rfl) (by kernel_rfl) (fun _ _ _ h => h) (Or.inl ⟨by rfl, ?_⟩) (by assumption) ?_
  · (intro W hSw; have x0 := hSw.2.at (k := 0) (v := .string s) rfl; have x1 := hSw.2.at (k := 1) (v := .bool ff) rfl; have x2 := hSw.2.at (k := 2) (v := .int .i64 fb) rfl; have x3 := hSw.2.at (k := 3) (v := .bool tf) rfl; have x4 := hSw.2.at (k := 4) (v := .int .i64 tb) rfl; have x5 := hSw.2.at (k := 5) (v := .bool sg) rfl; go_simp; try (with_reducible rfl))
  try simp only [Act.put, List.setIfInBounds_toArray, List.set_cons_zero, List.set_cons_succ]
  refine wpAnyH_ready (rs := [2]) (by kernel_rfl) (by simp) ?_
  refine AllReadyH.cons (o := ⟨_, _, _, _, _, _⟩) rfl (fun K hK => ?_) ?_
  · go_simp
    go_at_call 64
    (with_reducible refine (HH0 _ hS.1).out.mono ?_)
    rintro e W1 ⟨v1, rfl, ho1, hb⟩
    replace hS := And.intro (hS.1.trans (hb.mono hS.1.size)) (hS.2.call hb)
    have HR1 := RowAt.of_own ho1 hc1
    clear hb ho1
    refine hK.out _ _ hS (fun _ => ?_)
    clear hK K
    try simp only [Act.put, List.setIfInBounds_toArray, List.set_cons_zero, List.set_cons_succ]
    refine wpAnyH_ready (rs := [5]) (by kernel_rfl) (by simp) ?_
    refine AllReadyH.cons (o := ⟨_, _, _, _, _, _⟩) rfl (fun K hK => ?_) ?_
    · go_simp
      go_at_call 64
      (with_reducible refine (HH1 _ hS.1).out.mono ?_)
      rintro e W2 ⟨v2, rfl, ho2, hb⟩
      replace hS := And.intro (hS.1.trans (hb.mono hS.1.size)) (hS.2.call hb)
      replace HR1 := HR1.call hb
      have HR2 := RowAt.of_own ho2 hc1
      clear hb ho2
      refine hK.out _ _ hS (fun _ => ?_)
      clear hK K
      try simp only [Act.put, List.setIfInBounds_toArray, List.set_cons_zero, List.set_cons_succ]
      refine wpAnyH_take (oi := ⟨_, _, _, _, _, _⟩) (i := 6) (v := v1) rfl (by kernel_rfl) (by kernel_rfl) (by kernel_rfl) (fun _ _ _ h => h) (Or.inl ⟨by rfl, ?_⟩) (by assumption) ?_
      · (intro W hSw; have x0 := hSw.2.at (k := 0) (v := .string s) rfl; have x1 := hSw.2.at (k := 1) (v := .bool ff) rfl; have x2 := hSw.2.at (k := 2) (v := .int .i64 fb) rfl; have x3 := hSw.2.at (k := 3) (v := .bool tf) rfl; have x4 := hSw.2.at (k := 4) (v := .int .i64 tb) rfl; have x5 := hSw.2.at (k := 5) (v := .bool sg) rfl; go_simp; try (with_reducible rfl))
      try simp only [Act.put, List.setIfInBounds_toArray, List.set_cons_zero, List.set_cons_succ]
      refine wpAnyH_take (oi := ⟨_, _, _, _, _, _⟩) (i := 7) (v := v2) rfl (by kernel_rfl) (by kernel_rfl) (by kernel_rfl) (fun _ _ _ h => h) (Or.inl ⟨by rfl, ?_⟩) (by assumption) ?_
      · (intro W hSw; have x0 := hSw.2.at (k := 0) (v := .string s) rfl; have x1 := hSw.2.at (k := 1) (v := .bool ff) rfl; have x2 := hSw.2.at (k := 2) (v := .int .i64 fb) rfl; have x3 := hSw.2.at (k := 3) (v := .bool tf) rfl; have x4 := hSw.2.at (k := 4) (v := .int .i64 tb) rfl; have x5 := hSw.2.at (k := 5) (v := .bool sg) rfl; go_simp; try (with_reducible rfl))
      try simp only [Act.put, List.setIfInBounds_toArray, List.set_cons_zero, List.set_cons_succ]
      refine wpAnyH_done (by kernel_rfl) ?_ _
      have y0 := hS.2.at (k := 0) (v := .string s) rfl
      have y1 := hS.2.at (k := 1) (v := .bool ff) rfl
      have y2 := hS.2.at (k := 2) (v := .int .i64 fb) rfl
      have y3 := hS.2.at (k := 3) (v := .bool tf) rfl
      have y4 := hS.2.at (k := 4) (v := .int .i64 tb) rfl
      have y5 := hS.2.at (k := 5) (v := .bool sg) rfl
      have HS2 := hid hS
      have HA := hid HR1
      have HB := hid HR2
      clear hS HR1 HR2
      go_wp2_with (first
        | (go_at_call 72; refine (HHO _).out.mono ?_; rintro e W3 ⟨g, lb, rfl, eg, hd, hb⟩; have HEE := hid (HE.out g lb W3 v1 v2 hd eg (HA.out.call hb) (HB.out.call hb)); have HB3 := hid (HS2.out.1.trans (hb.mono HS2.out.1.size)); clear hb hd eg)
        | (go_at_call 71; refine HEE.out.mono ?_; rintro e W4 ⟨v4, rfl, ho4, hb4⟩))
      go_ret
      exact LPost.mono0 HB3.out ⟨v4, rfl, ho4, hb4⟩
    exact AllReadyH.nil
  exact AllReadyH.nil
end Go.Proofs.YtlhakbkdlgejpaaGreatDoor
namespace Go.Proofs.YtlhakbkdlgejpaaGreatDoor
open Go.RowKit
def hasAt (l t : List UInt8) (i : Nat) : Bool := (l.drop i).take t.length == t
/-- Does a text hold another one? -/
def hasL (l t : List UInt8) : Bool := (List.range (l.length + 1 - t.length)).any (hasAt l t)
theorem extract_str (l : List UInt8) (a n : Nat) : ((str l).extract a (a + n)).toList = (l.drop a).take n := by
  rw [ByteArray.toList_eq, ByteArray.data_extract]
  simp only [str]
  rw [List.extract_toArray]
  show (l.extract a (a + n)) = _
  rw [List.extract_eq_take_drop, Nat.add_sub_cancel_left]
set_option maxHeartbeats 4000000 in
theorem has_says (l t : List UInt8) (hl : l.length ≤ 100) (ht : t.length ≤ 100) (w : World) : Calls Tryz.prog 79 #[.string (str l), .string (str t)] w fun e w' => e = .returned (.bool (hasL l t)) ∧ Below w.heap.size w w' := by
  obtain ⟨s, hs⟩ : ∃ s, s = str l := ⟨_, rfl⟩
  obtain ⟨u, hu⟩ : ∃ u, u = str t := ⟨_, rfl⟩
  have hsz : s.size = l.length := by rw [hs, str_size]
  have huz : u.size = t.length := by rw [hu, str_size]
  rw [← hs, ← hu]
  have HS := hid hs
  have HU := hid hu
  clear hs hu
  obtain ⟨L, hL⟩ : ∃ L, L = l.length := ⟨_, rfl⟩
  obtain ⟨T, hT⟩ : ∃ T, T = t.length := ⟨_, rfl⟩
  rw [← hL] at hsz hl
  rw [← hT] at huz ht
  have HL := hid hL
  have HT := hid hT
  obtain ⟨b, hb⟩ : ∃ b, b = hasL l t := ⟨_, rfl⟩
  rw [← hb]
  have HB := hid hb
  clear hL hT hb
  go_enter Tryz.func79, Tryz.ntmps79
  go_wp2
  go_loopw [5] (fun vi wr => ∃ n : Nat, Hid (n ≤ L + 1 ∧ ∀ i, i < n → hasAt l t i = false) ∧ vi = .int .i64 n ∧ Hid (Below w.heap.size w wr)) (fun vi _ => 101 - (intOf vi).toNat)
  case atStart => exact ⟨0, ⟨Nat.zero_le _, fun i hi => by omega⟩, rfl, Below.refl _ _⟩
  case round =>
    obtain ⟨n, hn, rfl, HR⟩ := hrel
    have hnL := hn.out.1
    have e1 : wrap64 ((n : Int) + (T : Int)) = (n : Int) + (T : Int) := by unfold wrap64; omega
    have e2 : IntKind.i64.wrap ((n : Int) + (T : Int)) = (n : Int) + (T : Int) := by rw [IntKind.wrap_i64]; unfold wrap64 at e1; exact e1
    by_cases hlt : n + T ≤ L
    · have hlt1 : (n : Int) + (T : Int) ≤ (L : Int) := by omega
      have hlt2 : (0 : Int) ≤ (n : Int) + (T : Int) := by omega
      have hlt3 : (n : Int) ≤ (n : Int) + (T : Int) := by omega
      have hnt : ((n : Int) + (T : Int)).toNat = n + T := by omega
      have hq : ((s.extract n (n + T)).toList == u.toList) = hasAt l t n := by
        rw [HS.out, HU.out, extract_str, str_list]
        unfold hasAt
        rw [HT.out]
      cases hh : hasAt l t n with
      | true =>
        rw [hh] at hq
        have he : b = true := by
          rw [HB.out]
          exact List.any_eq_true.2 ⟨n, List.mem_range.2 (by have := HL.out; have := HT.out; omega), hh⟩
        have HE := hid he
        clear he hh
        go_wp2
        go_ret
        exact ⟨by rw [HE.out]; rfl, HR.out⟩
      | false =>
        rw [hh] at hq
        have hn1 : Hid (n + 1 ≤ L + 1 ∧ ∀ i, i < n + 1 → hasAt l t i = false) := ⟨by omega, fun i hi => by
          rcases Nat.lt_or_ge i n with h | h
          · exact hn.out.2 i h
          · obtain rfl : i = n := by omega
            exact hh⟩
        clear hh
        go_wp2
        go_roundw
        case rel => exact ⟨n + 1, hn1.out, by go_num, HR.out⟩
        case measure => (first | (simp [intOf]; done) | (simp [intOf]; omega))
    · have hlt1 : ¬ (n : Int) + (T : Int) ≤ (L : Int) := by omega
      have he : b = false := by
        rw [HB.out]
        exact List.any_eq_false.2 fun i hi => by
          rw [List.mem_range] at hi
          have := HL.out
          have := HT.out
          rw [hn.out.2 i (by omega)]
          decide
      have HE := hid he
      clear he
      go_wp2
      go_ret
      exact ⟨by rw [HE.out]; rfl, HR.out⟩
end Go.Proofs.YtlhakbkdlgejpaaGreatDoor
