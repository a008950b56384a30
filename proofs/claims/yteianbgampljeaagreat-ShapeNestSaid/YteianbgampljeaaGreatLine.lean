/-
  The contract of the program's lineOf: the line of any number, in new memory.
-/
import Derived.Test.YteianbgampljeaaGreatTabs
set_option linter.unusedSimpArgs false
set_option linter.unusedVariables false
set_option maxRecDepth 100000
namespace Go.Proofs.YteianbgampljeaaGreat
open Go.RowKit

theorem bcell {W w1 : World} (hb : Below W.heap.size W w1) : (∀ b o, b < W.heap.size → w1.cell? ⟨b, o, none⟩ = W.cell? ⟨b, o, none⟩) ∧ (∀ b o, b < W.heap.size → w1.frozen? ⟨b, o, none⟩ = W.frozen? ⟨b, o, none⟩) :=
  ⟨fun b o h => hb.cell (p := ⟨b, o, none⟩) h, fun b o h => hb.frozen (p := ⟨b, o, none⟩) h⟩

theorem below_four {w w1 : World} {o : Obj} (hb : Below (w.alloc o).heap.size (w.alloc o) w1) (a b c d : Value) :
    Below w.heap.size w ((((w1.setCell ⟨w.heap.size, 0, none⟩ a).setCell ⟨w.heap.size, 1, none⟩ b).setCell ⟨w.heap.size, 2, none⟩ c).setCell ⟨w.heap.size, 3, none⟩ d) :=
  ((((((Below.refl _ _).alloc (Nat.le_refl _) o).trans (hb.mono (by simp))).setCell (Nat.le_refl _) _).setCell (Nat.le_refl _) _).setCell (Nat.le_refl _) _).setCell (Nat.le_refl _) _

/-- What the program's plain says, behind its tests. -/
noncomputable def plainL (op : Int) : Ln :=
  if op < 40 then tab39.getD (op - 0).toNat ln0 else if op < 69 then tab40.getD (op - 40).toNat ln0 else if op < 103 then tab41.getD (op - 69).toNat ln0 else if op < 139 then tab42.getD (op - 103).toNat ln0 else if op < 167 then tab43.getD (op - 139).toNat ln0 else if op < 197 then tab44.getD (op - 167).toNat ln0 else if 208 ≤ op then tab45.getD (op - 208).toNat ln0 else ln0
/-- What the program's vector says. -/
noncomputable def vectorL (op : Int) : Ln :=
  if op < 14 then tab46.getD (op - 0).toNat ln0 else if op < 35 then tab47.getD (op - 14).toNat ln0 else if op < 77 then tab48.getD (op - 35).toNat ln0 else if op < 96 then tab49.getD (op - 77).toNat ln0 else if op < 128 then tab50.getD (op - 96).toNat ln0 else if op < 160 then tab51.getD (op - 128).toNat ln0 else if op < 192 then tab52.getD (op - 160).toNat ln0 else if op < 224 then tab53.getD (op - 192).toNat ln0 else tab54.getD (op - 224).toNat ln0
/-- The line of a number. -/
noncomputable def lineL (op : Int) : Ln :=
  if op < 0 then ln0 else if op < 211 then plainL op else if 64512 ≤ op ∧ op < 64530 then tab37.getD (op - 64512).toNat ln0 else if 64768 ≤ op ∧ op < 65024 then vectorL (op - 64768) else ln0

set_option maxHeartbeats 1000000 in
theorem plain_0 (op : Int) (w : World) (c0 : 0 ≤ op) (c1 : op < 40) : Calls Tryz.prog 138 #[.int .i64 op] w fun e w' => e = .returned (lnV (plainL op)) ∧ Below w.heap.size w w' := by
  obtain ⟨r, hr⟩ : ∃ r, r = tab39.getD (op - 0).toNat ln0 := ⟨_, rfl⟩
  have HP := hid (show plainL op = r by unfold plainL; rw [if_pos c1, hr])
  have H := fun W => hid (says39 op W (by omega) (by omega))
  rw [show op.toNat = (op - 0).toNat by simp, ← hr] at H
  clear hr
  go_enter Tryz.func138, Tryz.ntmps138
  go_wp2_with fail
  refine (H _).out.mono ?_
  rintro e w1 ⟨rfl, hb⟩
  obtain ⟨hc, hf⟩ := bcell hb
  unfold lnV
  go_wp2
  exact bodyPost_ret (v := lnV r) (by simp [results, Tryz.results138, go_sem, hc, lnV]) rfl ⟨by rw [HP.out], below_four hb _ _ _ _⟩
set_option maxHeartbeats 1000000 in
theorem plain_1 (op : Int) (w : World) (c0 : 0 ≤ op) (c1 : ¬ op < 40) (c2 : op < 69) : Calls Tryz.prog 138 #[.int .i64 op] w fun e w' => e = .returned (lnV (plainL op)) ∧ Below w.heap.size w w' := by
  obtain ⟨r, hr⟩ : ∃ r, r = tab40.getD (op - 40).toNat ln0 := ⟨_, rfl⟩
  have HP := hid (show plainL op = r by unfold plainL; rw [if_neg c1, if_pos c2, hr])
  have H := fun W => hid (says40 (op - 40) W (by omega) (by omega))
  rw [show (op - 40).toNat = (op - 40).toNat by simp, ← hr] at H
  clear hr
  go_enter Tryz.func138, Tryz.ntmps138
  go_wp2_with fail
  refine (H _).out.mono ?_
  rintro e w1 ⟨rfl, hb⟩
  obtain ⟨hc, hf⟩ := bcell hb
  unfold lnV
  go_wp2
  exact bodyPost_ret (v := lnV r) (by simp [results, Tryz.results138, go_sem, hc, lnV]) rfl ⟨by rw [HP.out], below_four hb _ _ _ _⟩
set_option maxHeartbeats 1000000 in
theorem plain_2 (op : Int) (w : World) (c0 : 0 ≤ op) (c1 : ¬ op < 40) (c2 : ¬ op < 69) (c3 : op < 103) : Calls Tryz.prog 138 #[.int .i64 op] w fun e w' => e = .returned (lnV (plainL op)) ∧ Below w.heap.size w w' := by
  obtain ⟨r, hr⟩ : ∃ r, r = tab41.getD (op - 69).toNat ln0 := ⟨_, rfl⟩
  have HP := hid (show plainL op = r by unfold plainL; rw [if_neg c1, if_neg c2, if_pos c3, hr])
  have H := fun W => hid (says41 (op - 69) W (by omega) (by omega))
  rw [show (op - 69).toNat = (op - 69).toNat by simp, ← hr] at H
  clear hr
  go_enter Tryz.func138, Tryz.ntmps138
  go_wp2_with fail
  refine (H _).out.mono ?_
  rintro e w1 ⟨rfl, hb⟩
  obtain ⟨hc, hf⟩ := bcell hb
  unfold lnV
  go_wp2
  exact bodyPost_ret (v := lnV r) (by simp [results, Tryz.results138, go_sem, hc, lnV]) rfl ⟨by rw [HP.out], below_four hb _ _ _ _⟩
set_option maxHeartbeats 1000000 in
theorem plain_3 (op : Int) (w : World) (c0 : 0 ≤ op) (c1 : ¬ op < 40) (c2 : ¬ op < 69) (c3 : ¬ op < 103) (c4 : op < 139) : Calls Tryz.prog 138 #[.int .i64 op] w fun e w' => e = .returned (lnV (plainL op)) ∧ Below w.heap.size w w' := by
  obtain ⟨r, hr⟩ : ∃ r, r = tab42.getD (op - 103).toNat ln0 := ⟨_, rfl⟩
  have HP := hid (show plainL op = r by unfold plainL; rw [if_neg c1, if_neg c2, if_neg c3, if_pos c4, hr])
  have H := fun W => hid (says42 (op - 103) W (by omega) (by omega))
  rw [show (op - 103).toNat = (op - 103).toNat by simp, ← hr] at H
  clear hr
  go_enter Tryz.func138, Tryz.ntmps138
  go_wp2_with fail
  refine (H _).out.mono ?_
  rintro e w1 ⟨rfl, hb⟩
  obtain ⟨hc, hf⟩ := bcell hb
  unfold lnV
  go_wp2
  exact bodyPost_ret (v := lnV r) (by simp [results, Tryz.results138, go_sem, hc, lnV]) rfl ⟨by rw [HP.out], below_four hb _ _ _ _⟩
set_option maxHeartbeats 1000000 in
theorem plain_4 (op : Int) (w : World) (c0 : 0 ≤ op) (c1 : ¬ op < 40) (c2 : ¬ op < 69) (c3 : ¬ op < 103) (c4 : ¬ op < 139) (c5 : op < 167) : Calls Tryz.prog 138 #[.int .i64 op] w fun e w' => e = .returned (lnV (plainL op)) ∧ Below w.heap.size w w' := by
  obtain ⟨r, hr⟩ : ∃ r, r = tab43.getD (op - 139).toNat ln0 := ⟨_, rfl⟩
  have HP := hid (show plainL op = r by unfold plainL; rw [if_neg c1, if_neg c2, if_neg c3, if_neg c4, if_pos c5, hr])
  have H := fun W => hid (says43 (op - 139) W (by omega) (by omega))
  rw [show (op - 139).toNat = (op - 139).toNat by simp, ← hr] at H
  clear hr
  go_enter Tryz.func138, Tryz.ntmps138
  go_wp2_with fail
  refine (H _).out.mono ?_
  rintro e w1 ⟨rfl, hb⟩
  obtain ⟨hc, hf⟩ := bcell hb
  unfold lnV
  go_wp2
  exact bodyPost_ret (v := lnV r) (by simp [results, Tryz.results138, go_sem, hc, lnV]) rfl ⟨by rw [HP.out], below_four hb _ _ _ _⟩
set_option maxHeartbeats 1000000 in
theorem plain_5 (op : Int) (w : World) (c0 : 0 ≤ op) (c1 : ¬ op < 40) (c2 : ¬ op < 69) (c3 : ¬ op < 103) (c4 : ¬ op < 139) (c5 : ¬ op < 167) (c6 : op < 197) : Calls Tryz.prog 138 #[.int .i64 op] w fun e w' => e = .returned (lnV (plainL op)) ∧ Below w.heap.size w w' := by
  obtain ⟨r, hr⟩ : ∃ r, r = tab44.getD (op - 167).toNat ln0 := ⟨_, rfl⟩
  have HP := hid (show plainL op = r by unfold plainL; rw [if_neg c1, if_neg c2, if_neg c3, if_neg c4, if_neg c5, if_pos c6, hr])
  have H := fun W => hid (says44 (op - 167) W (by omega) (by omega))
  rw [show (op - 167).toNat = (op - 167).toNat by simp, ← hr] at H
  clear hr
  go_enter Tryz.func138, Tryz.ntmps138
  go_wp2_with fail
  refine (H _).out.mono ?_
  rintro e w1 ⟨rfl, hb⟩
  obtain ⟨hc, hf⟩ := bcell hb
  unfold lnV
  go_wp2
  exact bodyPost_ret (v := lnV r) (by simp [results, Tryz.results138, go_sem, hc, lnV]) rfl ⟨by rw [HP.out], below_four hb _ _ _ _⟩
set_option maxHeartbeats 1000000 in
theorem plain_ref (op : Int) (w : World) (c0 : 0 ≤ op) (c1 : ¬ op < 40) (c2 : ¬ op < 69) (c3 : ¬ op < 103) (c4 : ¬ op < 139) (c5 : ¬ op < 167) (c6 : ¬ op < 197) (c7 : 208 ≤ op) (c8 : op < 211) : Calls Tryz.prog 138 #[.int .i64 op] w fun e w' => e = .returned (lnV (plainL op)) ∧ Below w.heap.size w w' := by
  obtain ⟨r, hr⟩ : ∃ r, r = tab45.getD (op - 208).toNat ln0 := ⟨_, rfl⟩
  have HP := hid (show plainL op = r by unfold plainL; rw [if_neg c1, if_neg c2, if_neg c3, if_neg c4, if_neg c5, if_neg c6, if_pos c7, hr])
  have H := fun W => hid (says45 (op - 208) W (by omega) (by omega))
  rw [← hr] at H
  clear hr
  go_enter Tryz.func138, Tryz.ntmps138
  go_wp2_with fail
  refine (H _).out.mono ?_
  rintro e w1 ⟨rfl, hb⟩
  obtain ⟨hc, hf⟩ := bcell hb
  unfold lnV
  go_wp2
  exact bodyPost_ret (v := lnV r) (by simp [results, Tryz.results138, go_sem, hc, lnV]) rfl ⟨by rw [HP.out], below_four hb _ _ _ _⟩
set_option maxHeartbeats 1000000 in
theorem plain_none (op : Int) (w : World) (c0 : 0 ≤ op) (c1 : ¬ op < 40) (c2 : ¬ op < 69) (c3 : ¬ op < 103) (c4 : ¬ op < 139) (c5 : ¬ op < 167) (c6 : ¬ op < 197) (c7 : ¬ 208 ≤ op) : Calls Tryz.prog 138 #[.int .i64 op] w fun e w' => e = .returned (lnV (plainL op)) ∧ Below w.heap.size w w' := by
  have HP := hid (show plainL op = ln0 by unfold plainL; rw [if_neg c1, if_neg c2, if_neg c3, if_neg c4, if_neg c5, if_neg c6, if_neg c7])
  go_enter Tryz.func138, Tryz.ntmps138
  go_wp2_with fail
  exact bodyPost_ret (v := lnV ln0) (by simp [results, Tryz.results138, go_sem, lnV, ln0]) rfl ⟨by rw [HP.out], (Below.refl _ _).alloc (Nat.le_refl _) _⟩
theorem plain_says (op : Int) (w : World) (h0 : 0 ≤ op) (h1 : op < 211) : Calls Tryz.prog 138 #[.int .i64 op] w fun e w' => e = .returned (lnV (plainL op)) ∧ Below w.heap.size w w' := by
  by_cases d0 : op < 40
  · exact plain_0 op w h0 d0
  by_cases d1 : op < 69
  · exact plain_1 op w h0 d0 d1
  by_cases d2 : op < 103
  · exact plain_2 op w h0 d0 d1 d2
  by_cases d3 : op < 139
  · exact plain_3 op w h0 d0 d1 d2 d3
  by_cases d4 : op < 167
  · exact plain_4 op w h0 d0 d1 d2 d3 d4
  by_cases d5 : op < 197
  · exact plain_5 op w h0 d0 d1 d2 d3 d4 d5
  by_cases e : 208 ≤ op
  · exact plain_ref op w h0 d0 d1 d2 d3 d4 d5 e h1
  · exact plain_none op w h0 d0 d1 d2 d3 d4 d5 e

set_option maxHeartbeats 1000000 in
theorem vec_0 (op : Int) (w : World) (c0 : 0 ≤ op) (c1 : op < 14) : Calls Tryz.prog 140 #[.int .i64 op] w fun e w' => e = .returned (lnV (vectorL op)) ∧ Below w.heap.size w w' := by
  obtain ⟨r, hr⟩ : ∃ r, r = tab46.getD (op - 0).toNat ln0 := ⟨_, rfl⟩
  have HP := hid (show vectorL op = r by unfold vectorL; rw [if_pos c1, hr])
  have H := fun W => hid (says46 op W (by omega) (by omega))
  rw [show op.toNat = (op - 0).toNat by simp, ← hr] at H
  clear hr
  go_enter Tryz.func140, Tryz.ntmps140
  go_wp2_with fail
  refine (H _).out.mono ?_
  rintro e w1 ⟨rfl, hb⟩
  obtain ⟨hc, hf⟩ := bcell hb
  unfold lnV
  go_wp2
  exact bodyPost_ret (v := lnV r) (by simp [results, Tryz.results140, go_sem, hc, lnV]) rfl ⟨by rw [HP.out], below_four hb _ _ _ _⟩
set_option maxHeartbeats 1000000 in
theorem vec_1 (op : Int) (w : World) (c0 : 0 ≤ op) (c1 : ¬ op < 14) (c2 : op < 35) : Calls Tryz.prog 140 #[.int .i64 op] w fun e w' => e = .returned (lnV (vectorL op)) ∧ Below w.heap.size w w' := by
  obtain ⟨r, hr⟩ : ∃ r, r = tab47.getD (op - 14).toNat ln0 := ⟨_, rfl⟩
  have HP := hid (show vectorL op = r by unfold vectorL; rw [if_neg c1, if_pos c2, hr])
  have H := fun W => hid (says47 (op - 14) W (by omega) (by omega))
  rw [show (op - 14).toNat = (op - 14).toNat by simp, ← hr] at H
  clear hr
  go_enter Tryz.func140, Tryz.ntmps140
  go_wp2_with fail
  refine (H _).out.mono ?_
  rintro e w1 ⟨rfl, hb⟩
  obtain ⟨hc, hf⟩ := bcell hb
  unfold lnV
  go_wp2
  exact bodyPost_ret (v := lnV r) (by simp [results, Tryz.results140, go_sem, hc, lnV]) rfl ⟨by rw [HP.out], below_four hb _ _ _ _⟩
set_option maxHeartbeats 1000000 in
theorem vec_2 (op : Int) (w : World) (c0 : 0 ≤ op) (c1 : ¬ op < 14) (c2 : ¬ op < 35) (c3 : op < 77) : Calls Tryz.prog 140 #[.int .i64 op] w fun e w' => e = .returned (lnV (vectorL op)) ∧ Below w.heap.size w w' := by
  obtain ⟨r, hr⟩ : ∃ r, r = tab48.getD (op - 35).toNat ln0 := ⟨_, rfl⟩
  have HP := hid (show vectorL op = r by unfold vectorL; rw [if_neg c1, if_neg c2, if_pos c3, hr])
  have H := fun W => hid (says48 (op - 35) W (by omega) (by omega))
  rw [show (op - 35).toNat = (op - 35).toNat by simp, ← hr] at H
  clear hr
  go_enter Tryz.func140, Tryz.ntmps140
  go_wp2_with fail
  refine (H _).out.mono ?_
  rintro e w1 ⟨rfl, hb⟩
  obtain ⟨hc, hf⟩ := bcell hb
  unfold lnV
  go_wp2
  exact bodyPost_ret (v := lnV r) (by simp [results, Tryz.results140, go_sem, hc, lnV]) rfl ⟨by rw [HP.out], below_four hb _ _ _ _⟩
set_option maxHeartbeats 1000000 in
theorem vec_3 (op : Int) (w : World) (c0 : 0 ≤ op) (c1 : ¬ op < 14) (c2 : ¬ op < 35) (c3 : ¬ op < 77) (c4 : op < 96) : Calls Tryz.prog 140 #[.int .i64 op] w fun e w' => e = .returned (lnV (vectorL op)) ∧ Below w.heap.size w w' := by
  obtain ⟨r, hr⟩ : ∃ r, r = tab49.getD (op - 77).toNat ln0 := ⟨_, rfl⟩
  have HP := hid (show vectorL op = r by unfold vectorL; rw [if_neg c1, if_neg c2, if_neg c3, if_pos c4, hr])
  have H := fun W => hid (says49 (op - 77) W (by omega) (by omega))
  rw [show (op - 77).toNat = (op - 77).toNat by simp, ← hr] at H
  clear hr
  go_enter Tryz.func140, Tryz.ntmps140
  go_wp2_with fail
  refine (H _).out.mono ?_
  rintro e w1 ⟨rfl, hb⟩
  obtain ⟨hc, hf⟩ := bcell hb
  unfold lnV
  go_wp2
  exact bodyPost_ret (v := lnV r) (by simp [results, Tryz.results140, go_sem, hc, lnV]) rfl ⟨by rw [HP.out], below_four hb _ _ _ _⟩
set_option maxHeartbeats 1000000 in
theorem vec_4 (op : Int) (w : World) (c0 : 0 ≤ op) (c1 : ¬ op < 14) (c2 : ¬ op < 35) (c3 : ¬ op < 77) (c4 : ¬ op < 96) (c5 : op < 128) : Calls Tryz.prog 140 #[.int .i64 op] w fun e w' => e = .returned (lnV (vectorL op)) ∧ Below w.heap.size w w' := by
  obtain ⟨r, hr⟩ : ∃ r, r = tab50.getD (op - 96).toNat ln0 := ⟨_, rfl⟩
  have HP := hid (show vectorL op = r by unfold vectorL; rw [if_neg c1, if_neg c2, if_neg c3, if_neg c4, if_pos c5, hr])
  have H := fun W => hid (says50 (op - 96) W (by omega) (by omega))
  rw [show (op - 96).toNat = (op - 96).toNat by simp, ← hr] at H
  clear hr
  go_enter Tryz.func140, Tryz.ntmps140
  go_wp2_with fail
  refine (H _).out.mono ?_
  rintro e w1 ⟨rfl, hb⟩
  obtain ⟨hc, hf⟩ := bcell hb
  unfold lnV
  go_wp2
  exact bodyPost_ret (v := lnV r) (by simp [results, Tryz.results140, go_sem, hc, lnV]) rfl ⟨by rw [HP.out], below_four hb _ _ _ _⟩
set_option maxHeartbeats 1000000 in
theorem vec_5 (op : Int) (w : World) (c0 : 0 ≤ op) (c1 : ¬ op < 14) (c2 : ¬ op < 35) (c3 : ¬ op < 77) (c4 : ¬ op < 96) (c5 : ¬ op < 128) (c6 : op < 160) : Calls Tryz.prog 140 #[.int .i64 op] w fun e w' => e = .returned (lnV (vectorL op)) ∧ Below w.heap.size w w' := by
  obtain ⟨r, hr⟩ : ∃ r, r = tab51.getD (op - 128).toNat ln0 := ⟨_, rfl⟩
  have HP := hid (show vectorL op = r by unfold vectorL; rw [if_neg c1, if_neg c2, if_neg c3, if_neg c4, if_neg c5, if_pos c6, hr])
  have H := fun W => hid (says51 (op - 128) W (by omega) (by omega))
  rw [show (op - 128).toNat = (op - 128).toNat by simp, ← hr] at H
  clear hr
  go_enter Tryz.func140, Tryz.ntmps140
  go_wp2_with fail
  refine (H _).out.mono ?_
  rintro e w1 ⟨rfl, hb⟩
  obtain ⟨hc, hf⟩ := bcell hb
  unfold lnV
  go_wp2
  exact bodyPost_ret (v := lnV r) (by simp [results, Tryz.results140, go_sem, hc, lnV]) rfl ⟨by rw [HP.out], below_four hb _ _ _ _⟩
set_option maxHeartbeats 1000000 in
theorem vec_6 (op : Int) (w : World) (c0 : 0 ≤ op) (c1 : ¬ op < 14) (c2 : ¬ op < 35) (c3 : ¬ op < 77) (c4 : ¬ op < 96) (c5 : ¬ op < 128) (c6 : ¬ op < 160) (c7 : op < 192) : Calls Tryz.prog 140 #[.int .i64 op] w fun e w' => e = .returned (lnV (vectorL op)) ∧ Below w.heap.size w w' := by
  obtain ⟨r, hr⟩ : ∃ r, r = tab52.getD (op - 160).toNat ln0 := ⟨_, rfl⟩
  have HP := hid (show vectorL op = r by unfold vectorL; rw [if_neg c1, if_neg c2, if_neg c3, if_neg c4, if_neg c5, if_neg c6, if_pos c7, hr])
  have H := fun W => hid (says52 (op - 160) W (by omega) (by omega))
  rw [show (op - 160).toNat = (op - 160).toNat by simp, ← hr] at H
  clear hr
  go_enter Tryz.func140, Tryz.ntmps140
  go_wp2_with fail
  refine (H _).out.mono ?_
  rintro e w1 ⟨rfl, hb⟩
  obtain ⟨hc, hf⟩ := bcell hb
  unfold lnV
  go_wp2
  exact bodyPost_ret (v := lnV r) (by simp [results, Tryz.results140, go_sem, hc, lnV]) rfl ⟨by rw [HP.out], below_four hb _ _ _ _⟩
set_option maxHeartbeats 1000000 in
theorem vec_7 (op : Int) (w : World) (c0 : 0 ≤ op) (c1 : ¬ op < 14) (c2 : ¬ op < 35) (c3 : ¬ op < 77) (c4 : ¬ op < 96) (c5 : ¬ op < 128) (c6 : ¬ op < 160) (c7 : ¬ op < 192) (c8 : op < 224) : Calls Tryz.prog 140 #[.int .i64 op] w fun e w' => e = .returned (lnV (vectorL op)) ∧ Below w.heap.size w w' := by
  obtain ⟨r, hr⟩ : ∃ r, r = tab53.getD (op - 192).toNat ln0 := ⟨_, rfl⟩
  have HP := hid (show vectorL op = r by unfold vectorL; rw [if_neg c1, if_neg c2, if_neg c3, if_neg c4, if_neg c5, if_neg c6, if_neg c7, if_pos c8, hr])
  have H := fun W => hid (says53 (op - 192) W (by omega) (by omega))
  rw [show (op - 192).toNat = (op - 192).toNat by simp, ← hr] at H
  clear hr
  go_enter Tryz.func140, Tryz.ntmps140
  go_wp2_with fail
  refine (H _).out.mono ?_
  rintro e w1 ⟨rfl, hb⟩
  obtain ⟨hc, hf⟩ := bcell hb
  unfold lnV
  go_wp2
  exact bodyPost_ret (v := lnV r) (by simp [results, Tryz.results140, go_sem, hc, lnV]) rfl ⟨by rw [HP.out], below_four hb _ _ _ _⟩
set_option maxHeartbeats 1000000 in
theorem vec_last (op : Int) (w : World) (c0 : 0 ≤ op) (c1 : ¬ op < 14) (c2 : ¬ op < 35) (c3 : ¬ op < 77) (c4 : ¬ op < 96) (c5 : ¬ op < 128) (c6 : ¬ op < 160) (c7 : ¬ op < 192) (c8 : ¬ op < 224) (c9 : op < 256) : Calls Tryz.prog 140 #[.int .i64 op] w fun e w' => e = .returned (lnV (vectorL op)) ∧ Below w.heap.size w w' := by
  obtain ⟨r, hr⟩ : ∃ r, r = tab54.getD (op - 224).toNat ln0 := ⟨_, rfl⟩
  have HP := hid (show vectorL op = r by unfold vectorL; rw [if_neg c1, if_neg c2, if_neg c3, if_neg c4, if_neg c5, if_neg c6, if_neg c7, if_neg c8, hr])
  have H := fun W => hid (says54 (op - 224) W (by omega) (by omega))
  rw [← hr] at H
  clear hr
  go_enter Tryz.func140, Tryz.ntmps140
  go_wp2_with fail
  refine (H _).out.mono ?_
  rintro e w1 ⟨rfl, hb⟩
  obtain ⟨hc, hf⟩ := bcell hb
  unfold lnV
  go_wp2
  exact bodyPost_ret (v := lnV r) (by simp [results, Tryz.results140, go_sem, hc, lnV]) rfl ⟨by rw [HP.out], below_four hb _ _ _ _⟩
theorem vector_says (op : Int) (w : World) (h0 : 0 ≤ op) (h1 : op < 256) : Calls Tryz.prog 140 #[.int .i64 op] w fun e w' => e = .returned (lnV (vectorL op)) ∧ Below w.heap.size w w' := by
  by_cases d0 : op < 14
  · exact vec_0 op w h0 d0
  by_cases d1 : op < 35
  · exact vec_1 op w h0 d0 d1
  by_cases d2 : op < 77
  · exact vec_2 op w h0 d0 d1 d2
  by_cases d3 : op < 96
  · exact vec_3 op w h0 d0 d1 d2 d3
  by_cases d4 : op < 128
  · exact vec_4 op w h0 d0 d1 d2 d3 d4
  by_cases d5 : op < 160
  · exact vec_5 op w h0 d0 d1 d2 d3 d4 d5
  by_cases d6 : op < 192
  · exact vec_6 op w h0 d0 d1 d2 d3 d4 d5 d6
  by_cases d7 : op < 224
  · exact vec_7 op w h0 d0 d1 d2 d3 d4 d5 d6 d7
  exact vec_last op w h0 d0 d1 d2 d3 d4 d5 d6 d7 h1

set_option maxHeartbeats 1000000 in
theorem line_neg (op : Int) (w : World) (c0 : op < 0) : Calls Tryz.prog 122 #[.int .i64 op] w fun e w' => e = .returned (lnV (lineL op)) ∧ Below w.heap.size w w' := by
  have HP := hid (show lineL op = ln0 by unfold lineL; rw [if_pos c0])
  go_enter Tryz.func122, Tryz.ntmps122
  go_wp2_with fail
  exact bodyPost_ret (v := lnV ln0) (by simp [results, Tryz.results122, go_sem, lnV, ln0]) rfl ⟨by rw [HP.out], (Below.refl _ _).alloc (Nat.le_refl _) _⟩
set_option maxHeartbeats 1000000 in
theorem line_plain (op : Int) (w : World) (c0 : ¬ op < 0) (c1 : op < 211) : Calls Tryz.prog 122 #[.int .i64 op] w fun e w' => e = .returned (lnV (lineL op)) ∧ Below w.heap.size w w' := by
  obtain ⟨r, hr⟩ : ∃ r, r = plainL op := ⟨_, rfl⟩
  have HP := hid (show lineL op = r by unfold lineL; rw [if_neg c0, if_pos c1, hr])
  have H := fun W => hid (plain_says op W (by omega) c1)
  rw [← hr] at H
  clear hr
  go_enter Tryz.func122, Tryz.ntmps122
  go_wp2_with fail
  refine (H _).out.mono ?_
  rintro e w1 ⟨rfl, hb⟩
  obtain ⟨hc, hf⟩ := bcell hb
  unfold lnV
  go_wp2
  exact bodyPost_ret (v := lnV r) (by simp [results, Tryz.results122, go_sem, hc, lnV]) rfl ⟨by rw [HP.out], below_four hb _ _ _ _⟩
set_option maxHeartbeats 1000000 in
theorem line_bulk (op : Int) (w : World) (c0 : ¬ op < 0) (c1 : ¬ op < 211) (c2 : 64512 ≤ op) (c3 : op < 64530) : Calls Tryz.prog 122 #[.int .i64 op] w fun e w' => e = .returned (lnV (lineL op)) ∧ Below w.heap.size w w' := by
  obtain ⟨r, hr⟩ : ∃ r, r = tab37.getD (op - 64512).toNat ln0 := ⟨_, rfl⟩
  have HP := hid (show lineL op = r by unfold lineL; rw [if_neg c0, if_neg c1, if_pos ⟨c2, c3⟩, hr])
  have H := fun W => hid (says37 (op - 64512) W (by omega) (by omega))
  rw [← hr] at H
  clear hr
  go_enter Tryz.func122, Tryz.ntmps122
  go_wp2_with fail
  refine (H _).out.mono ?_
  rintro e w1 ⟨rfl, hb⟩
  obtain ⟨hc, hf⟩ := bcell hb
  unfold lnV
  go_wp2
  exact bodyPost_ret (v := lnV r) (by simp [results, Tryz.results122, go_sem, hc, lnV]) rfl ⟨by rw [HP.out], below_four hb _ _ _ _⟩
set_option maxHeartbeats 1000000 in
theorem line_vec (op : Int) (w : World) (c0 : ¬ op < 0) (c1 : ¬ op < 211) (c2 : ¬ op < 64530) (c3 : 64768 ≤ op) (c4 : op < 65024) : Calls Tryz.prog 122 #[.int .i64 op] w fun e w' => e = .returned (lnV (lineL op)) ∧ Below w.heap.size w w' := by
  obtain ⟨r, hr⟩ : ∃ r, r = vectorL (op - 64768) := ⟨_, rfl⟩
  have HP := hid (show lineL op = r by unfold lineL; rw [if_neg c0, if_neg c1, if_neg (fun h => c2 h.2), if_pos ⟨c3, c4⟩, hr])
  have H := fun W => hid (vector_says (op - 64768) W (by omega) (by omega))
  rw [← hr] at H
  clear hr
  have q : 64512 ≤ op := by omega
  go_enter Tryz.func122, Tryz.ntmps122
  go_wp2_with fail
  refine (H _).out.mono ?_
  rintro e w1 ⟨rfl, hb⟩
  obtain ⟨hc, hf⟩ := bcell hb
  unfold lnV
  go_wp2
  exact bodyPost_ret (v := lnV r) (by simp [results, Tryz.results122, go_sem, hc, lnV]) rfl ⟨by rw [HP.out], below_four hb _ _ _ _⟩
set_option maxHeartbeats 1000000 in
theorem line_gap1 (op : Int) (w : World) (c0 : ¬ op < 0) (c1 : ¬ op < 211) (c2 : ¬ 64512 ≤ op) : Calls Tryz.prog 122 #[.int .i64 op] w fun e w' => e = .returned (lnV (lineL op)) ∧ Below w.heap.size w w' := by
  have HP := hid (show lineL op = ln0 by unfold lineL; rw [if_neg c0, if_neg c1, if_neg (fun h => c2 h.1), if_neg (fun h => c2 (by omega))])
  have q : ¬ 64768 ≤ op := by omega
  go_enter Tryz.func122, Tryz.ntmps122
  go_wp2_with fail
  exact bodyPost_ret (v := lnV ln0) (by simp [results, Tryz.results122, go_sem, lnV, ln0]) rfl ⟨by rw [HP.out], (Below.refl _ _).alloc (Nat.le_refl _) _⟩
set_option maxHeartbeats 1000000 in
theorem line_gap2 (op : Int) (w : World) (c0 : ¬ op < 0) (c1 : ¬ op < 211) (c2 : 64512 ≤ op) (c3 : ¬ op < 64530) (c4 : ¬ 64768 ≤ op) : Calls Tryz.prog 122 #[.int .i64 op] w fun e w' => e = .returned (lnV (lineL op)) ∧ Below w.heap.size w w' := by
  have HP := hid (show lineL op = ln0 by unfold lineL; rw [if_neg c0, if_neg c1, if_neg (fun h => c3 h.2), if_neg (fun h => c4 h.1)])
  go_enter Tryz.func122, Tryz.ntmps122
  go_wp2_with fail
  exact bodyPost_ret (v := lnV ln0) (by simp [results, Tryz.results122, go_sem, lnV, ln0]) rfl ⟨by rw [HP.out], (Below.refl _ _).alloc (Nat.le_refl _) _⟩
set_option maxHeartbeats 1000000 in
theorem line_gap3 (op : Int) (w : World) (c0 : ¬ op < 0) (c1 : ¬ op < 211) (c2 : 64512 ≤ op) (c3 : ¬ op < 64530) (c4 : 64768 ≤ op) (c5 : ¬ op < 65024) : Calls Tryz.prog 122 #[.int .i64 op] w fun e w' => e = .returned (lnV (lineL op)) ∧ Below w.heap.size w w' := by
  have HP := hid (show lineL op = ln0 by unfold lineL; rw [if_neg c0, if_neg c1, if_neg (fun h => c3 h.2), if_neg (fun h => c5 h.2)])
  go_enter Tryz.func122, Tryz.ntmps122
  go_wp2_with fail
  exact bodyPost_ret (v := lnV ln0) (by simp [results, Tryz.results122, go_sem, lnV, ln0]) rfl ⟨by rw [HP.out], (Below.refl _ _).alloc (Nat.le_refl _) _⟩
/-- The program's lineOf, of any number. -/
theorem line_says (op : Int) (w : World) : Calls Tryz.prog 122 #[.int .i64 op] w fun e w' => e = .returned (lnV (lineL op)) ∧ Below w.heap.size w w' := by
  by_cases c0 : op < 0
  · exact line_neg op w c0
  by_cases c1 : op < 211
  · exact line_plain op w c0 c1
  by_cases c2 : 64512 ≤ op
  · by_cases c3 : op < 64530
    · exact line_bulk op w c0 c1 c2 c3
    by_cases c4 : 64768 ≤ op
    · by_cases c5 : op < 65024
      · exact line_vec op w c0 c1 c3 c4 c5
      · exact line_gap3 op w c0 c1 c2 c3 c4 c5
    · exact line_gap2 op w c0 c1 c2 c3 c4
  · exact line_gap1 op w c0 c1 c2
end Go.Proofs.YteianbgampljeaaGreat
