/-
  LXRep, LXFit: merged, what the law does not reach left out (each text says what it holds where it lies in wip). No condition.
-/
import Derived.Test.YtlhakbkdlgejpaaGreatDoorH06
import Derived.Test.YtlhakbkdlgejpaaGreatDoorH14
import Derived.Test.YtlhakbkdlgejpaaGreatDoorH03
import Derived.Test.YtlhakbkdlgejpaaGreatDoorH18
import Derived.Test.YtlhakbkdlgejpaaGreatDoorH15
import Derived.Test.YtlhakbkdlgejpaaGreatDoorH12
set_option linter.unusedSimpArgs false
set_option linter.unusedVariables false
set_option maxRecDepth 100000
namespace Go.Proofs.YtlhakbkdlgejpaaGreatDoor
open Go.RowKit
set_option maxHeartbeats 4000000 in
theorem vector_rep (ff : Bool) (fb : Int) (tf : Bool) (tb : Int) (sg : Bool) (gi ci : Nat) (va : Value) (at_ c : Nat) (hc1 : 1 ≤ c) (hc : c ≤ 16) (hat : at_ < c) (F : Nat → Nat) (x : Nat) (w : World) (hgi : w.cell? ⟨gi, 0, none⟩ = some (.int .i64 at_))
    (H0 : ∀ W, Below w.heap.size w W → Calls Tryz.prog 64 #[insV [114, 101, 112, 108, 97, 99, 101, 95, 108, 97, 110, 101] ff fb tf tb sg, va, .int .i64 0] W (LPost W c F))
    (H1 : ∀ W, Below w.heap.size w W → Calls Tryz.prog 64 #[insV [114, 101, 112, 108, 97, 99, 101, 95, 108, 97, 110, 101] ff fb tf tb sg, va, .int .i64 1] W (LPost W c (fun _ => x))) :
    Calls Tryz.prog 34 #[insV [114, 101, 112, 108, 97, 99, 101, 95, 108, 97, 110, 101] ff fb tf tb sg, .slice (some ⟨gi, 0, none⟩) 1 ci, va] w (LPost w c (fun i => if i = at_ then x else F i)) := by
  have hgl : gi < w.heap.size := World.block_lt_of_cell? _ _ hgi
  unfold insV at H0 H1 ⊢
  obtain ⟨s, hs⟩ : ∃ s, s = str [114, 101, 112, 108, 97, 99, 101, 95, 108, 97, 110, 101] := ⟨_, rfl⟩
  rw [← hs] at H0 H1 ⊢
  have q0 : (s.toList == [115, 112, 108, 97, 116]) = false := by rw [hs, str_list]; decide
  have q1 : (s.toList == [114, 101, 112, 108, 97, 99, 101, 95, 108, 97, 110, 101]) = true := by rw [hs, str_list]; decide
  obtain ⟨vi, hvi⟩ : ∃ vi : Value, vi = .slice (some ⟨gi, 0, none⟩) 1 ci := ⟨_, rfl⟩
  rw [← hvi]
  have HVI := hid hvi
  clear hs hvi
  have HH0 := fun W h => hid (H0 W h)
  have HH1 := fun W h => hid (H1 W h)
  have HPUT := hid (fc_set c F at_ x)
  clear H0 H1
  go_enter Tryz.func34, Tryz.ntmps34
  go_upto_region 1 with fail
  have hS : Below w.heap.size w (w.alloc (.cells #[.string s, .bool ff, .int .i64 fb, .bool tf, .int .i64 tb, .bool sg] 50)).drew ∧ CA w.heap.size #[.string s, .bool ff, .int .i64 fb, .bool tf, .int .i64 tb, .bool sg] 50 (w.alloc (.cells #[.string s, .bool ff, .int .i64 fb, .bool tf, .int .i64 tb, .bool sg] 50)).drew := ⟨((Below.refl _ w).alloc (Nat.le_refl _) _).drew, (CA.new w _ 50).drew⟩
  refine wp_region_held_drew (S := fun W => Below w.heap.size w W ∧ CA w.heap.size #[.string s, .bool ff, .int .i64 fb, .bool tf, .int .i64 tb, .bool sg] 50 W) (by kernel_rfl) hS (fun _ => ?_)
  generalize (w.alloc (.cells #[.string s, .bool ff, .int .i64 fb, .bool tf, .int .i64 tb, .bool sg] 50)).drew = W at *
  refine wpAnyH_take (oi := ⟨_, _, _, _, _, _⟩) (i := 0) (v := .agg #[.string s, .bool ff, .int .i64 fb, .bool tf, .int .i64 tb, .bool sg]) rfl (by kernel_rfl) (by kernel_rfl) (by kernel_rfl) (fun _ _ _ h => h) (Or.inl ⟨by rfl, ?_⟩) (by assumption) ?_
  · (intro W hSw; have x0 := hSw.2.at (k := 0) (v := .string s) rfl; have x1 := hSw.2.at (k := 1) (v := .bool ff) rfl; have x2 := hSw.2.at (k := 2) (v := .int .i64 fb) rfl; have x3 := hSw.2.at (k := 3) (v := .bool tf) rfl; have x4 := hSw.2.at (k := 4) (v := .int .i64 tb) rfl; have x5 := hSw.2.at (k := 5) (v := .bool sg) rfl; go_simp; try (with_reducible rfl))
  try simp only [Act.put, List.setIfInBounds_toArray, List.set_cons_zero, List.set_cons_succ]
  refine wpAnyH_take (oi := ⟨_, _, _, _, _, _⟩) (i := 1) (v := va) rfl (by kernel_rfl) (by kernel_rfl) (by kernel_rfl) (fun _ _ _ h => h) (Or.inl ⟨by rfl, ?_⟩) (by assumption) ?_
  · (intro W hSw; have x0 := hSw.2.at (k := 0) (v := .string s) rfl; have x1 := hSw.2.at (k := 1) (v := .bool ff) rfl; have x2 := hSw.2.at (k := 2) (v := .int .i64 fb) rfl; have x3 := hSw.2.at (k := 3) (v := .bool tf) rfl; have x4 := hSw.2.at (k := 4) (v := .int .i64 tb) rfl; have x5 := hSw.2.at (k := 5) (v := .bool sg) rfl; go_simp; try (with_reducible rfl))
  try simp only [Act.put, List.setIfInBounds_toArray, List.set_cons_zero, List.set_cons_succ]
  refine wpAnyH_take (oi := ⟨_, _, _, _, _, _⟩) (i := 3) (v := .agg #[.string s, .bool ff, .int .i64 fb, .bool tf, .int .i64 tb, .bool sg]) rfl (by kernel_rfl) (by kernel_rfl) (by kernel_rfl) (fun _ _ _ h => h) (Or.inl ⟨by rfl, ?_⟩) (by assumption) ?_
  · (intro W hSw; have x0 := hSw.2.at (k := 0) (v := .string s) rfl; have x1 := hSw.2.at (k := 1) (v := .bool ff) rfl; have x2 := hSw.2.at (k := 2) (v := .int .i64 fb) rfl; have x3 := hSw.2.at (k := 3) (v := .bool tf) rfl; have x4 := hSw.2.at (k := 4) (v := .int .i64 tb) rfl; have x5 := hSw.2.at (k := 5) (v := .bool sg) rfl; go_simp; try (with_reducible rfl))
  try simp only [Act.put, List.setIfInBounds_toArray, List.set_cons_zero, List.set_cons_succ]
  refine wpAnyH_take (oi := ⟨_, _, _, _, _, _⟩) (i := 4) (v := va) rfl (by kernel_rfl) (by kernel_rfl) (by kernel_rfl) (fun _ _ _ h => h) (Or.inl ⟨by rfl, ?_⟩) (by assumption) ?_
  · (intro W hSw; have x0 := hSw.2.at (k := 0) (v := .string s) rfl; have x1 := hSw.2.at (k := 1) (v := .bool ff) rfl; have x2 := hSw.2.at (k := 2) (v := .int .i64 fb) rfl; have x3 := hSw.2.at (k := 3) (v := .bool tf) rfl; have x4 := hSw.2.at (k := 4) (v := .int .i64 tb) rfl; have x5 := hSw.2.at (k := 5) (v := .bool sg) rfl; go_simp; try (with_reducible rfl))
  try simp only [Act.put, List.setIfInBounds_toArray, List.set_cons_zero, List.set_cons_succ]
  refine wpAnyH_ready (rs := [2]) (by kernel_rfl) (by simp) ?_
  refine AllReadyH.cons (o := ⟨_, _, _, _, _, _⟩) rfl (fun K hK => ?_) ?_
  · go_simp
    go_at_call 64
    (with_reducible refine (HH0 _ hS.1).out.mono ?_)
    rintro e W1 ⟨v1, rfl, ho1, hb⟩
    have HO1 := hid (own_mono ho1 hS.1.size)
    replace hS := And.intro (hS.1.trans (hb.mono hS.1.size)) (hS.2.call hb)
    clear hb ho1
    refine hK.out _ _ hS (fun _ => ?_)
    clear hK K
    try simp only [Act.put, List.setIfInBounds_toArray, List.set_cons_zero, List.set_cons_succ]
    refine wpAnyH_ready (rs := [5]) (by kernel_rfl) (by simp) ?_
    refine AllReadyH.cons (o := ⟨_, _, _, _, _, _⟩) rfl (fun K hK => ?_) ?_
    · go_simp
      go_at_call 64
      (with_reducible refine (HH1 _ hS.1).out.mono ?_)
      rintro e W2 ⟨v2, rfl, ho2, hb⟩
      replace hS := And.intro (hS.1.trans (hb.mono hS.1.size)) (hS.2.call hb)
      have HL1 := hid (fun k h => (HO1.out.lt k h).2)
      replace HO1 := hid (own_below HO1.out hb (Nat.le_refl _))
      have HO2 := hid ho2
      clear hb ho2
      refine hK.out _ _ hS (fun _ => ?_)
      clear hK K
      try simp only [Act.put, List.setIfInBounds_toArray, List.set_cons_zero, List.set_cons_succ]
      refine wpAnyH_take (oi := ⟨_, _, _, _, _, _⟩) (i := 6) (v := v1) rfl (by kernel_rfl) (by kernel_rfl) (by kernel_rfl) (fun _ _ _ h => h) (Or.inl ⟨by rfl, ?_⟩) (by assumption) ?_
      · (intro W hSw; have x0 := hSw.2.at (k := 0) (v := .string s) rfl; have x1 := hSw.2.at (k := 1) (v := .bool ff) rfl; have x2 := hSw.2.at (k := 2) (v := .int .i64 fb) rfl; have x3 := hSw.2.at (k := 3) (v := .bool tf) rfl; have x4 := hSw.2.at (k := 4) (v := .int .i64 tb) rfl; have x5 := hSw.2.at (k := 5) (v := .bool sg) rfl; go_simp; try (with_reducible rfl))
      try simp only [Act.put, List.setIfInBounds_toArray, List.set_cons_zero, List.set_cons_succ]
      refine wpAnyH_take (oi := ⟨_, _, _, _, _, _⟩) (i := 7) (v := v2) rfl (by kernel_rfl) (by kernel_rfl) (by kernel_rfl) (fun _ _ _ h => h) (Or.inl ⟨by rfl, ?_⟩) (by assumption) ?_
      · (intro W hSw; have x0 := hSw.2.at (k := 0) (v := .string s) rfl; have x1 := hSw.2.at (k := 1) (v := .bool ff) rfl; have x2 := hSw.2.at (k := 2) (v := .int .i64 fb) rfl; have x3 := hSw.2.at (k := 3) (v := .bool tf) rfl; have x4 := hSw.2.at (k := 4) (v := .int .i64 tb) rfl; have x5 := hSw.2.at (k := 5) (v := .bool sg) rfl; go_simp; try (with_reducible rfl))
      try simp only [Act.put, List.setIfInBounds_toArray, List.set_cons_zero, List.set_cons_succ]
      refine wpAnyH_done (by kernel_rfl) ?_ _
      have y0 := hS.2.at (k := 0) (v := .string s) rfl
      obtain ⟨g1, cap1, rfl⟩ := owned_at HO1.out hc1
      obtain ⟨g2, cap2, rfl⟩ := owned_at HO2.out hc1
      obtain rfl := HVI.out
      have hg1w : w.heap.size ≤ g1 := (HO1.out.lt g1 rfl).1
      have hne12 : ∀ o, (⟨g1, o, none⟩ : Addr) ≠ ⟨g2, o, none⟩ := fun o hh => by
        have e1 : g1 = g2 := congrArg Addr.block hh
        have e2 := HL1.out g1 rfl
        have e3 := (HO2.out.lt g2 rfl).1
        omega
      have hc2 := HO2.out.cellAt at_ (by omega)
      rw [fc_get hat] at hc2
      have HC2 := hid (And.intro hS.1 hc2)
      have HOO := hid HO1.out
      clear hc2 HO1 HO2 HL1 hS
      go_upto_region 6 with fail
      have hS : Below w.heap.size w W2.drew ∧ W2.drew.cell? ⟨g2, at_, none⟩ = some (.int .u64 (x : Nat)) := ⟨HC2.out.1.drew, HC2.out.2⟩
      have HO : W2.drew.ownsRow w.heap.size 22 1 (.slice (some ⟨g1, 0, none⟩) c cap1) c (fc c F) := HOO.out
      clear HC2 HOO y0
      refine wp_region_held_drew (S := fun W => Below w.heap.size w W ∧ W.cell? ⟨g2, at_, none⟩ = some (.int .u64 (x : Nat))) (by kernel_rfl) hS (fun _ => ?_)
      generalize W2.drew = W at *
      refine wpAnyH_take (oi := ⟨_, _, _, _, _, _⟩) (i := 0) (v := .slice (some ⟨g1, 0, none⟩) c cap1) rfl (by kernel_rfl) (by kernel_rfl) (by kernel_rfl) (fun _ _ _ h => h) (Or.inl ⟨by rfl, ?_⟩) (by assumption) ?_
      · (intro W hSw; have xi := (hSw.1.cell (p := ⟨gi, 0, none⟩) hgl).trans hgi; have x2 := hSw.2; go_simp; try (with_reducible rfl))
      try simp only [Act.put, List.setIfInBounds_toArray, List.set_cons_zero, List.set_cons_succ]
      refine wpAnyH_take (oi := ⟨_, _, _, _, _, _⟩) (i := 1) (v := .slice (some ⟨gi, 0, none⟩) 1 ci) rfl (by kernel_rfl) (by kernel_rfl) (by kernel_rfl) (fun _ _ _ h => h) (Or.inl ⟨by rfl, ?_⟩) (by assumption) ?_
      · (intro W hSw; have xi := (hSw.1.cell (p := ⟨gi, 0, none⟩) hgl).trans hgi; have x2 := hSw.2; go_simp; try (with_reducible rfl))
      try simp only [Act.put, List.setIfInBounds_toArray, List.set_cons_zero, List.set_cons_succ]
      refine wpAnyH_take (oi := ⟨_, _, _, _, _, _⟩) (i := 2) (v := .pointer (some ⟨gi, 0, none⟩)) rfl (by kernel_rfl) (by kernel_rfl) (by kernel_rfl) (fun _ _ _ h => h) (Or.inl ⟨by rfl, ?_⟩) (by assumption) ?_
      · (intro W hSw; have xi := (hSw.1.cell (p := ⟨gi, 0, none⟩) hgl).trans hgi; have x2 := hSw.2; go_simp; try (with_reducible rfl))
      try simp only [Act.put, List.setIfInBounds_toArray, List.set_cons_zero, List.set_cons_succ]
      refine wpAnyH_take (oi := ⟨_, _, _, _, _, _⟩) (i := 3) (v := .int .i64 at_) rfl (by kernel_rfl) (by kernel_rfl) (by kernel_rfl) (fun _ _ _ h => h) (Or.inl ⟨by rfl, ?_⟩) (by assumption) ?_
      · (intro W hSw; have xi := (hSw.1.cell (p := ⟨gi, 0, none⟩) hgl).trans hgi; have x2 := hSw.2; go_simp; try (with_reducible rfl))
      try simp only [Act.put, List.setIfInBounds_toArray, List.set_cons_zero, List.set_cons_succ]
      refine wpAnyH_take (oi := ⟨_, _, _, _, _, _⟩) (i := 4) (v := .slice (some ⟨g2, 0, none⟩) c cap2) rfl (by kernel_rfl) (by kernel_rfl) (by kernel_rfl) (fun _ _ _ h => h) (Or.inl ⟨by rfl, ?_⟩) (by assumption) ?_
      · (intro W hSw; have xi := (hSw.1.cell (p := ⟨gi, 0, none⟩) hgl).trans hgi; have x2 := hSw.2; go_simp; try (with_reducible rfl))
      try simp only [Act.put, List.setIfInBounds_toArray, List.set_cons_zero, List.set_cons_succ]
      refine wpAnyH_take (oi := ⟨_, _, _, _, _, _⟩) (i := 5) (v := .slice (some ⟨gi, 0, none⟩) 1 ci) rfl (by kernel_rfl) (by kernel_rfl) (by kernel_rfl) (fun _ _ _ h => h) (Or.inl ⟨by rfl, ?_⟩) (by assumption) ?_
      · (intro W hSw; have xi := (hSw.1.cell (p := ⟨gi, 0, none⟩) hgl).trans hgi; have x2 := hSw.2; go_simp; try (with_reducible rfl))
      try simp only [Act.put, List.setIfInBounds_toArray, List.set_cons_zero, List.set_cons_succ]
      refine wpAnyH_take (oi := ⟨_, _, _, _, _, _⟩) (i := 6) (v := .pointer (some ⟨gi, 0, none⟩)) rfl (by kernel_rfl) (by kernel_rfl) (by kernel_rfl) (fun _ _ _ h => h) (Or.inl ⟨by rfl, ?_⟩) (by assumption) ?_
      · (intro W hSw; have xi := (hSw.1.cell (p := ⟨gi, 0, none⟩) hgl).trans hgi; have x2 := hSw.2; go_simp; try (with_reducible rfl))
      try simp only [Act.put, List.setIfInBounds_toArray, List.set_cons_zero, List.set_cons_succ]
      refine wpAnyH_take (oi := ⟨_, _, _, _, _, _⟩) (i := 7) (v := .int .i64 at_) rfl (by kernel_rfl) (by kernel_rfl) (by kernel_rfl) (fun _ _ _ h => h) (Or.inl ⟨by rfl, ?_⟩) (by assumption) ?_
      · (intro W hSw; have xi := (hSw.1.cell (p := ⟨gi, 0, none⟩) hgl).trans hgi; have x2 := hSw.2; go_simp; try (with_reducible rfl))
      try simp only [Act.put, List.setIfInBounds_toArray, List.set_cons_zero, List.set_cons_succ]
      refine wpAnyH_take (oi := ⟨_, _, _, _, _, _⟩) (i := 8) (v := .pointer (some ⟨g2, at_, none⟩)) rfl (by kernel_rfl) (by kernel_rfl) (by kernel_rfl) (fun _ _ _ h => h) (Or.inl ⟨by rfl, ?_⟩) (by assumption) ?_
      · (intro W hSw; have xi := (hSw.1.cell (p := ⟨gi, 0, none⟩) hgl).trans hgi; have x2 := hSw.2; go_simp; try (with_reducible rfl))
      try simp only [Act.put, List.setIfInBounds_toArray, List.set_cons_zero, List.set_cons_succ]
      refine wpAnyH_take (oi := ⟨_, _, _, _, _, _⟩) (i := 9) (v := .int .u64 (x : Nat)) rfl (by kernel_rfl) (by kernel_rfl) (by kernel_rfl) (fun _ _ _ h => h) (Or.inl ⟨by rfl, ?_⟩) (by assumption) ?_
      · (intro W hSw; have xi := (hSw.1.cell (p := ⟨gi, 0, none⟩) hgl).trans hgi; have x2 := hSw.2; go_simp; try (with_reducible rfl))
      try simp only [Act.put, List.setIfInBounds_toArray, List.set_cons_zero, List.set_cons_succ]
      refine wpAnyH_take (oi := ⟨_, _, _, _, _, _⟩) (i := 10) (v := .pointer (some ⟨g1, at_, none⟩)) rfl (by kernel_rfl) (by kernel_rfl) (by kernel_rfl) (fun _ _ _ h => h) (Or.inl ⟨by rfl, ?_⟩) (by assumption) ?_
      · (intro W hSw; have xi := (hSw.1.cell (p := ⟨gi, 0, none⟩) hgl).trans hgi; have x2 := hSw.2; go_simp; try (with_reducible rfl))
      try simp only [Act.put, List.setIfInBounds_toArray, List.set_cons_zero, List.set_cons_succ]
      refine wpAnyH_ready (rs := [11]) (by kernel_rfl) (by simp) ?_
      refine AllReadyH.cons (o := ⟨_, _, _, _, _, _⟩) rfl (fun K hK => ?_) ?_
      · have z0 := HO.cellAt at_ (by omega)
        rw [fc_get hat] at z0
        have z1 := HO.frozenAt at_
        go_simp
        clear z0 z1
        have hos := (HO.stored at_ (.int .u64 (x : Nat))).1
        rw [HPUT.out] at hos
        have HOX := hid hos
        have hS2 : Below w.heap.size w (W.setCell ⟨g1, at_, none⟩ (.int .u64 (x : Nat))) ∧ (W.setCell ⟨g1, at_, none⟩ (.int .u64 (x : Nat))).cell? ⟨g2, at_, none⟩ = some (.int .u64 (x : Nat)) := ⟨hS.1.setCell (p := ⟨g1, at_, none⟩) hg1w (.int .u64 (x : Nat)), by rw [World.cell?_setCell_other (h := hne12 at_)]; exact hS.2⟩
        clear hos hS HO
        have hS := hS2
        clear hS2
        generalize W.setCell ⟨g1, at_, none⟩ (.int .u64 (x : Nat)) = WX at *
        refine hK.out _ _ hS (fun _ => ?_)
        clear hK K
        try simp only [Act.put, List.setIfInBounds_toArray, List.set_cons_zero, List.set_cons_succ]
        refine wpAnyH_done (by kernel_rfl) ?_ _
        go_wp2
        go_ret
        exact ⟨_, rfl, HOX.out, hS.1⟩
      exact AllReadyH.nil
    exact AllReadyH.nil
  exact AllReadyH.nil
end Go.Proofs.YtlhakbkdlgejpaaGreatDoor
namespace Go.Proofs.YtlhakbkdlgejpaaGreatDoor
open Go.RowKit
theorem lane_in {at_ c : Nat} {l : Int} (h : at_ < c) (hl : l = (c : Int)) : ∀ x ∈ [(at_ : Int)], 0 ≤ x ∧ x < l := fun x hx => by
  rw [List.mem_singleton] at hx
  omega
end Go.Proofs.YtlhakbkdlgejpaaGreatDoor
