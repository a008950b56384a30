/-
  Line, Ops1, OwnB, LMem, RStr: merged, what the law does not reach left out (each text says what it holds where it lies in wip). No condition.
-/
import Derived.Test.YtlhakbkdlgejpaaGreatDoorH02
import Derived.OwnWalk
import Derived.Laws.AppendOwnNone
import Derived.Test.YtlhakbkdlgejpaaGreatDoorH01
import Derived.Laws.Concat
set_option linter.unusedSimpArgs false
set_option linter.unusedVariables false
set_option maxRecDepth 100000
namespace Go.Proofs.YtlhakbkdlgejpaaGreatDoor
open Go.RowKit
theorem bcell {W w1 : World} (hb : Below W.heap.size W w1) : (∀ b o, b < W.heap.size → w1.cell? ⟨b, o, none⟩ = W.cell? ⟨b, o, none⟩) ∧ (∀ b o, b < W.heap.size → w1.frozen? ⟨b, o, none⟩ = W.frozen? ⟨b, o, none⟩) :=
  ⟨fun b o h => hb.cell (p := ⟨b, o, none⟩) h, fun b o h => hb.frozen (p := ⟨b, o, none⟩) h⟩
theorem below_four {w w1 : World} {o : Obj} (hb : Below (w.alloc o).heap.size (w.alloc o) w1) (a b c d : Value) :
    Below w.heap.size w ((((w1.setCell ⟨w.heap.size, 0, none⟩ a).setCell ⟨w.heap.size, 1, none⟩ b).setCell ⟨w.heap.size, 2, none⟩ c).setCell ⟨w.heap.size, 3, none⟩ d) :=
  ((((((Below.refl _ _).alloc (Nat.le_refl _) o).trans (hb.mono (by simp))).setCell (Nat.le_refl _) _).setCell (Nat.le_refl _) _).setCell (Nat.le_refl _) _).setCell (Nat.le_refl _) _
/-- What the program's plain says, behind its tests. -/
noncomputable def plainL (op : Int) : Ln :=
  if op < 40 then tab39.getD (op - 0).toNat ln0 else if op < 69 then tab40.getD (op - 40).toNat ln0 else if op < 103 then tab41.getD (op - 69).toNat ln0 else if op < 139 then tab42.getD (op - 103).toNat ln0 else if op < 167 then tab43.getD (op - 139).toNat ln0 else if op < 197 then tab44.getD (op - 167).toNat ln0 else if 208 ≤ op then tab45.getD (op - 208).toNat ln0 else ln0
/-- What the program's vector says. -/
noncomputable def vectorL (op : Int) : Ln :=
  if op < 14 then tab46.getD (op - 0).toNat ln0 else if op < 35 then tab47.getD (op - 14).toNat ln0 else if op < 77 then tab48.getD (op - 35).toNat ln0 else if op < 96 then tab49.getD (op - 77).toNat ln0 else if op < 128 then tab50.getD (op - 96).toNat ln0 else if op < 160 then tab51.getD (op - 128).toNat ln0 else if op < 192 then tab52.getD (op - 160).toNat ln0 else if op < 224 then tab53.getD (op - 192).toNat ln0 else tab54.getD (op - 224).toNat ln0
/-- The line of a number. -/
noncomputable def lineL (op : Int) : Ln :=
  if op < 0 then ln0 else if op < 211 then plainL op else if 64512 ≤ op ∧ op < 64530 then tab37.getD (op - 64512).toNat ln0 else if 64768 ≤ op ∧ op < 65024 then vectorL (op - 64768) else ln0
set_option maxHeartbeats 1000000 in
theorem plain_0 (op : Int) (w : World) (c0 : 0 ≤ op) (c1 : op < 40) : Calls Tryz.prog 98 #[.int .i64 op] w fun e w' => e = .returned (lnV (plainL op)) ∧ Below w.heap.size w w' := by
  obtain ⟨r, hr⟩ : ∃ r, r = tab39.getD (op - 0).toNat ln0 := ⟨_, rfl⟩
  have HP := hid (show plainL op = r by unfold plainL; rw [if_pos c1, hr])
  have H := fun W => hid (says39 op W (by omega) (by omega))
  rw [show op.toNat = (op - 0).toNat by simp, ← hr] at H
  clear hr
  go_enter Tryz.func98, Tryz.ntmps98
  go_wp2_with fail
  refine (H _).out.mono ?_
  rintro e w1 ⟨rfl, hb⟩
  obtain ⟨hc, hf⟩ := bcell hb
  unfold lnV
  go_wp2
  exact bodyPost_ret (v := lnV r) (by simp [results, Tryz.results98, go_sem, hc, lnV]) rfl ⟨by rw [HP.out], below_four hb _ _ _ _⟩
set_option maxHeartbeats 1000000 in
theorem plain_1 (op : Int) (w : World) (c0 : 0 ≤ op) (c1 : ¬ op < 40) (c2 : op < 69) : Calls Tryz.prog 98 #[.int .i64 op] w fun e w' => e = .returned (lnV (plainL op)) ∧ Below w.heap.size w w' := by
  obtain ⟨r, hr⟩ : ∃ r, r = tab40.getD (op - 40).toNat ln0 := ⟨_, rfl⟩
  have HP := hid (show plainL op = r by unfold plainL; rw [if_neg c1, if_pos c2, hr])
  have H := fun W => hid (says40 (op - 40) W (by omega) (by omega))
  rw [show (op - 40).toNat = (op - 40).toNat by simp, ← hr] at H
  clear hr
  go_enter Tryz.func98, Tryz.ntmps98
  go_wp2_with fail
  refine (H _).out.mono ?_
  rintro e w1 ⟨rfl, hb⟩
  obtain ⟨hc, hf⟩ := bcell hb
  unfold lnV
  go_wp2
  exact bodyPost_ret (v := lnV r) (by simp [results, Tryz.results98, go_sem, hc, lnV]) rfl ⟨by rw [HP.out], below_four hb _ _ _ _⟩
set_option maxHeartbeats 1000000 in
theorem plain_2 (op : Int) (w : World) (c0 : 0 ≤ op) (c1 : ¬ op < 40) (c2 : ¬ op < 69) (c3 : op < 103) : Calls Tryz.prog 98 #[.int .i64 op] w fun e w' => e = .returned (lnV (plainL op)) ∧ Below w.heap.size w w' := by
  obtain ⟨r, hr⟩ : ∃ r, r = tab41.getD (op - 69).toNat ln0 := ⟨_, rfl⟩
  have HP := hid (show plainL op = r by unfold plainL; rw [if_neg c1, if_neg c2, if_pos c3, hr])
  have H := fun W => hid (says41 (op - 69) W (by omega) (by omega))
  rw [show (op - 69).toNat = (op - 69).toNat by simp, ← hr] at H
  clear hr
  go_enter Tryz.func98, Tryz.ntmps98
  go_wp2_with fail
  refine (H _).out.mono ?_
  rintro e w1 ⟨rfl, hb⟩
  obtain ⟨hc, hf⟩ := bcell hb
  unfold lnV
  go_wp2
  exact bodyPost_ret (v := lnV r) (by simp [results, Tryz.results98, go_sem, hc, lnV]) rfl ⟨by rw [HP.out], below_four hb _ _ _ _⟩
set_option maxHeartbeats 1000000 in
theorem plain_3 (op : Int) (w : World) (c0 : 0 ≤ op) (c1 : ¬ op < 40) (c2 : ¬ op < 69) (c3 : ¬ op < 103) (c4 : op < 139) : Calls Tryz.prog 98 #[.int .i64 op] w fun e w' => e = .returned (lnV (plainL op)) ∧ Below w.heap.size w w' := by
  obtain ⟨r, hr⟩ : ∃ r, r = tab42.getD (op - 103).toNat ln0 := ⟨_, rfl⟩
  have HP := hid (show plainL op = r by unfold plainL; rw [if_neg c1, if_neg c2, if_neg c3, if_pos c4, hr])
  have H := fun W => hid (says42 (op - 103) W (by omega) (by omega))
  rw [show (op - 103).toNat = (op - 103).toNat by simp, ← hr] at H
  clear hr
  go_enter Tryz.func98, Tryz.ntmps98
  go_wp2_with fail
  refine (H _).out.mono ?_
  rintro e w1 ⟨rfl, hb⟩
  obtain ⟨hc, hf⟩ := bcell hb
  unfold lnV
  go_wp2
  exact bodyPost_ret (v := lnV r) (by simp [results, Tryz.results98, go_sem, hc, lnV]) rfl ⟨by rw [HP.out], below_four hb _ _ _ _⟩
set_option maxHeartbeats 1000000 in
theorem plain_4 (op : Int) (w : World) (c0 : 0 ≤ op) (c1 : ¬ op < 40) (c2 : ¬ op < 69) (c3 : ¬ op < 103) (c4 : ¬ op < 139) (c5 : op < 167) : Calls Tryz.prog 98 #[.int .i64 op] w fun e w' => e = .returned (lnV (plainL op)) ∧ Below w.heap.size w w' := by
  obtain ⟨r, hr⟩ : ∃ r, r = tab43.getD (op - 139).toNat ln0 := ⟨_, rfl⟩
  have HP := hid (show plainL op = r by unfold plainL; rw [if_neg c1, if_neg c2, if_neg c3, if_neg c4, if_pos c5, hr])
  have H := fun W => hid (says43 (op - 139) W (by omega) (by omega))
  rw [show (op - 139).toNat = (op - 139).toNat by simp, ← hr] at H
  clear hr
  go_enter Tryz.func98, Tryz.ntmps98
  go_wp2_with fail
  refine (H _).out.mono ?_
  rintro e w1 ⟨rfl, hb⟩
  obtain ⟨hc, hf⟩ := bcell hb
  unfold lnV
  go_wp2
  exact bodyPost_ret (v := lnV r) (by simp [results, Tryz.results98, go_sem, hc, lnV]) rfl ⟨by rw [HP.out], below_four hb _ _ _ _⟩
set_option maxHeartbeats 1000000 in
theorem plain_5 (op : Int) (w : World) (c0 : 0 ≤ op) (c1 : ¬ op < 40) (c2 : ¬ op < 69) (c3 : ¬ op < 103) (c4 : ¬ op < 139) (c5 : ¬ op < 167) (c6 : op < 197) : Calls Tryz.prog 98 #[.int .i64 op] w fun e w' => e = .returned (lnV (plainL op)) ∧ Below w.heap.size w w' := by
  obtain ⟨r, hr⟩ : ∃ r, r = tab44.getD (op - 167).toNat ln0 := ⟨_, rfl⟩
  have HP := hid (show plainL op = r by unfold plainL; rw [if_neg c1, if_neg c2, if_neg c3, if_neg c4, if_neg c5, if_pos c6, hr])
  have H := fun W => hid (says44 (op - 167) W (by omega) (by omega))
  rw [show (op - 167).toNat = (op - 167).toNat by simp, ← hr] at H
  clear hr
  go_enter Tryz.func98, Tryz.ntmps98
  go_wp2_with fail
  refine (H _).out.mono ?_
  rintro e w1 ⟨rfl, hb⟩
  obtain ⟨hc, hf⟩ := bcell hb
  unfold lnV
  go_wp2
  exact bodyPost_ret (v := lnV r) (by simp [results, Tryz.results98, go_sem, hc, lnV]) rfl ⟨by rw [HP.out], below_four hb _ _ _ _⟩
set_option maxHeartbeats 1000000 in
theorem plain_ref (op : Int) (w : World) (c0 : 0 ≤ op) (c1 : ¬ op < 40) (c2 : ¬ op < 69) (c3 : ¬ op < 103) (c4 : ¬ op < 139) (c5 : ¬ op < 167) (c6 : ¬ op < 197) (c7 : 208 ≤ op) (c8 : op < 211) : Calls Tryz.prog 98 #[.int .i64 op] w fun e w' => e = .returned (lnV (plainL op)) ∧ Below w.heap.size w w' := by
  obtain ⟨r, hr⟩ : ∃ r, r = tab45.getD (op - 208).toNat ln0 := ⟨_, rfl⟩
  have HP := hid (show plainL op = r by unfold plainL; rw [if_neg c1, if_neg c2, if_neg c3, if_neg c4, if_neg c5, if_neg c6, if_pos c7, hr])
  have H := fun W => hid (says45 (op - 208) W (by omega) (by omega))
  rw [← hr] at H
  clear hr
  go_enter Tryz.func98, Tryz.ntmps98
  go_wp2_with fail
  refine (H _).out.mono ?_
  rintro e w1 ⟨rfl, hb⟩
  obtain ⟨hc, hf⟩ := bcell hb
  unfold lnV
  go_wp2
  exact bodyPost_ret (v := lnV r) (by simp [results, Tryz.results98, go_sem, hc, lnV]) rfl ⟨by rw [HP.out], below_four hb _ _ _ _⟩
set_option maxHeartbeats 1000000 in
theorem plain_none (op : Int) (w : World) (c0 : 0 ≤ op) (c1 : ¬ op < 40) (c2 : ¬ op < 69) (c3 : ¬ op < 103) (c4 : ¬ op < 139) (c5 : ¬ op < 167) (c6 : ¬ op < 197) (c7 : ¬ 208 ≤ op) : Calls Tryz.prog 98 #[.int .i64 op] w fun e w' => e = .returned (lnV (plainL op)) ∧ Below w.heap.size w w' := by
  have HP := hid (show plainL op = ln0 by unfold plainL; rw [if_neg c1, if_neg c2, if_neg c3, if_neg c4, if_neg c5, if_neg c6, if_neg c7])
  go_enter Tryz.func98, Tryz.ntmps98
  go_wp2_with fail
  exact bodyPost_ret (v := lnV ln0) (by simp [results, Tryz.results98, go_sem, lnV, ln0]) rfl ⟨by rw [HP.out], (Below.refl _ _).alloc (Nat.le_refl _) _⟩
theorem plain_says (op : Int) (w : World) (h0 : 0 ≤ op) (h1 : op < 211) : Calls Tryz.prog 98 #[.int .i64 op] w fun e w' => e = .returned (lnV (plainL op)) ∧ Below w.heap.size w w' := by
  by_cases d0 : op < 40
  · exact plain_0 op w h0 d0
  by_cases d1 : op < 69
  · exact plain_1 op w h0 d0 d1
  by_cases d2 : op < 103
  · exact plain_2 op w h0 d0 d1 d2
  by_cases d3 : op < 139
  · exact plain_3 op w h0 d0 d1 d2 d3
  by_cases d4 : op < 167
  · exact plain_4 op w h0 d0 d1 d2 d3 d4
  by_cases d5 : op < 197
  · exact plain_5 op w h0 d0 d1 d2 d3 d4 d5
  by_cases e : 208 ≤ op
  · exact plain_ref op w h0 d0 d1 d2 d3 d4 d5 e h1
  · exact plain_none op w h0 d0 d1 d2 d3 d4 d5 e
set_option maxHeartbeats 1000000 in
theorem vec_0 (op : Int) (w : World) (c0 : 0 ≤ op) (c1 : op < 14) : Calls Tryz.prog 100 #[.int .i64 op] w fun e w' => e = .returned (lnV (vectorL op)) ∧ Below w.heap.size w w' := by
  obtain ⟨r, hr⟩ : ∃ r, r = tab46.getD (op - 0).toNat ln0 := ⟨_, rfl⟩
  have HP := hid (show vectorL op = r by unfold vectorL; rw [if_pos c1, hr])
  have H := fun W => hid (says46 op W (by omega) (by omega))
  rw [show op.toNat = (op - 0).toNat by simp, ← hr] at H
  clear hr
  go_enter Tryz.func100, Tryz.ntmps100
  go_wp2_with fail
  refine (H _).out.mono ?_
  rintro e w1 ⟨rfl, hb⟩
  obtain ⟨hc, hf⟩ := bcell hb
  unfold lnV
  go_wp2
  exact bodyPost_ret (v := lnV r) (by simp [results, Tryz.results100, go_sem, hc, lnV]) rfl ⟨by rw [HP.out], below_four hb _ _ _ _⟩
set_option maxHeartbeats 1000000 in
theorem vec_1 (op : Int) (w : World) (c0 : 0 ≤ op) (c1 : ¬ op < 14) (c2 : op < 35) : Calls Tryz.prog 100 #[.int .i64 op] w fun e w' => e = .returned (lnV (vectorL op)) ∧ Below w.heap.size w w' := by
  obtain ⟨r, hr⟩ : ∃ r, r = tab47.getD (op - 14).toNat ln0 := ⟨_, rfl⟩
  have HP := hid (show vectorL op = r by unfold vectorL; rw [if_neg c1, if_pos c2, hr])
  have H := fun W => hid (says47 (op - 14) W (by omega) (by omega))
  rw [show (op - 14).toNat = (op - 14).toNat by simp, ← hr] at H
  clear hr
  go_enter Tryz.func100, Tryz.ntmps100
  go_wp2_with fail
  refine (H _).out.mono ?_
  rintro e w1 ⟨rfl, hb⟩
  obtain ⟨hc, hf⟩ := bcell hb
  unfold lnV
  go_wp2
  exact bodyPost_ret (v := lnV r) (by simp [results, Tryz.results100, go_sem, hc, lnV]) rfl ⟨by rw [HP.out], below_four hb _ _ _ _⟩
set_option maxHeartbeats 1000000 in
theorem vec_2 (op : Int) (w : World) (c0 : 0 ≤ op) (c1 : ¬ op < 14) (c2 : ¬ op < 35) (c3 : op < 77) : Calls Tryz.prog 100 #[.int .i64 op] w fun e w' => e = .returned (lnV (vectorL op)) ∧ Below w.heap.size w w' := by
  obtain ⟨r, hr⟩ : ∃ r, r = tab48.getD (op - 35).toNat ln0 := ⟨_, rfl⟩
  have HP := hid (show vectorL op = r by unfold vectorL; rw [if_neg c1, if_neg c2, if_pos c3, hr])
  have H := fun W => hid (says48 (op - 35) W (by omega) (by omega))
  rw [show (op - 35).toNat = (op - 35).toNat by simp, ← hr] at H
  clear hr
  go_enter Tryz.func100, Tryz.ntmps100
  go_wp2_with fail
  refine (H _).out.mono ?_
  rintro e w1 ⟨rfl, hb⟩
  obtain ⟨hc, hf⟩ := bcell hb
  unfold lnV
  go_wp2
  exact bodyPost_ret (v := lnV r) (by simp [results, Tryz.results100, go_sem, hc, lnV]) rfl ⟨by rw [HP.out], below_four hb _ _ _ _⟩
set_option maxHeartbeats 1000000 in
theorem vec_3 (op : Int) (w : World) (c0 : 0 ≤ op) (c1 : ¬ op < 14) (c2 : ¬ op < 35) (c3 : ¬ op < 77) (c4 : op < 96) : Calls Tryz.prog 100 #[.int .i64 op] w fun e w' => e = .returned (lnV (vectorL op)) ∧ Below w.heap.size w w' := by
  obtain ⟨r, hr⟩ : ∃ r, r = tab49.getD (op - 77).toNat ln0 := ⟨_, rfl⟩
  have HP := hid (show vectorL op = r by unfold vectorL; rw [if_neg c1, if_neg c2, if_neg c3, if_pos c4, hr])
  have H := fun W => hid (says49 (op - 77) W (by omega) (by omega))
  rw [show (op - 77).toNat = (op - 77).toNat by simp, ← hr] at H
  clear hr
  go_enter Tryz.func100, Tryz.ntmps100
  go_wp2_with fail
  refine (H _).out.mono ?_
  rintro e w1 ⟨rfl, hb⟩
  obtain ⟨hc, hf⟩ := bcell hb
  unfold lnV
  go_wp2
  exact bodyPost_ret (v := lnV r) (by simp [results, Tryz.results100, go_sem, hc, lnV]) rfl ⟨by rw [HP.out], below_four hb _ _ _ _⟩
set_option maxHeartbeats 1000000 in
theorem vec_4 (op : Int) (w : World) (c0 : 0 ≤ op) (c1 : ¬ op < 14) (c2 : ¬ op < 35) (c3 : ¬ op < 77) (c4 : ¬ op < 96) (c5 : op < 128) : Calls Tryz.prog 100 #[.int .i64 op] w fun e w' => e = .returned (lnV (vectorL op)) ∧ Below w.heap.size w w' := by
  obtain ⟨r, hr⟩ : ∃ r, r = tab50.getD (op - 96).toNat ln0 := ⟨_, rfl⟩
  have HP := hid (show vectorL op = r by unfold vectorL; rw [if_neg c1, if_neg c2, if_neg c3, if_neg c4, if_pos c5, hr])
  have H := fun W => hid (says50 (op - 96) W (by omega) (by omega))
  rw [show (op - 96).toNat = (op - 96).toNat by simp, ← hr] at H
  clear hr
  go_enter Tryz.func100, Tryz.ntmps100
  go_wp2_with fail
  refine (H _).out.mono ?_
  rintro e w1 ⟨rfl, hb⟩
  obtain ⟨hc, hf⟩ := bcell hb
  unfold lnV
  go_wp2
  exact bodyPost_ret (v := lnV r) (by simp [results, Tryz.results100, go_sem, hc, lnV]) rfl ⟨by rw [HP.out], below_four hb _ _ _ _⟩
set_option maxHeartbeats 1000000 in
theorem vec_5 (op : Int) (w : World) (c0 : 0 ≤ op) (c1 : ¬ op < 14) (c2 : ¬ op < 35) (c3 : ¬ op < 77) (c4 : ¬ op < 96) (c5 : ¬ op < 128) (c6 : op < 160) : Calls Tryz.prog 100 #[.int .i64 op] w fun e w' => e = .returned (lnV (vectorL op)) ∧ Below w.heap.size w w' := by
  obtain ⟨r, hr⟩ : ∃ r, r = tab51.getD (op - 128).toNat ln0 := ⟨_, rfl⟩
  have HP := hid (show vectorL op = r by unfold vectorL; rw [if_neg c1, if_neg c2, if_neg c3, if_neg c4, if_neg c5, if_pos c6, hr])
  have H := fun W => hid (says51 (op - 128) W (by omega) (by omega))
  rw [show (op - 128).toNat = (op - 128).toNat by simp, ← hr] at H
  clear hr
  go_enter Tryz.func100, Tryz.ntmps100
  go_wp2_with fail
  refine (H _).out.mono ?_
  rintro e w1 ⟨rfl, hb⟩
  obtain ⟨hc, hf⟩ := bcell hb
  unfold lnV
  go_wp2
  exact bodyPost_ret (v := lnV r) (by simp [results, Tryz.results100, go_sem, hc, lnV]) rfl ⟨by rw [HP.out], below_four hb _ _ _ _⟩
set_option maxHeartbeats 1000000 in
theorem vec_6 (op : Int) (w : World) (c0 : 0 ≤ op) (c1 : ¬ op < 14) (c2 : ¬ op < 35) (c3 : ¬ op < 77) (c4 : ¬ op < 96) (c5 : ¬ op < 128) (c6 : ¬ op < 160) (c7 : op < 192) : Calls Tryz.prog 100 #[.int .i64 op] w fun e w' => e = .returned (lnV (vectorL op)) ∧ Below w.heap.size w w' := by
  obtain ⟨r, hr⟩ : ∃ r, r = tab52.getD (op - 160).toNat ln0 := ⟨_, rfl⟩
  have HP := hid (show vectorL op = r by unfold vectorL; rw [if_neg c1, if_neg c2, if_neg c3, if_neg c4, if_neg c5, if_neg c6, if_pos c7, hr])
  have H := fun W => hid (says52 (op - 160) W (by omega) (by omega))
  rw [show (op - 160).toNat = (op - 160).toNat by simp, ← hr] at H
  clear hr
  go_enter Tryz.func100, Tryz.ntmps100
  go_wp2_with fail
  refine (H _).out.mono ?_
  rintro e w1 ⟨rfl, hb⟩
  obtain ⟨hc, hf⟩ := bcell hb
  unfold lnV
  go_wp2
  exact bodyPost_ret (v := lnV r) (by simp [results, Tryz.results100, go_sem, hc, lnV]) rfl ⟨by rw [HP.out], below_four hb _ _ _ _⟩
set_option maxHeartbeats 1000000 in
theorem vec_7 (op : Int) (w : World) (c0 : 0 ≤ op) (c1 : ¬ op < 14) (c2 : ¬ op < 35) (c3 : ¬ op < 77) (c4 : ¬ op < 96) (c5 : ¬ op < 128) (c6 : ¬ op < 160) (c7 : ¬ op < 192) (c8 : op < 224) : Calls Tryz.prog 100 #[.int .i64 op] w fun e w' => e = .returned (lnV (vectorL op)) ∧ Below w.heap.size w w' := by
  obtain ⟨r, hr⟩ : ∃ r, r = tab53.getD (op - 192).toNat ln0 := ⟨_, rfl⟩
  have HP := hid (show vectorL op = r by unfold vectorL; rw [if_neg c1, if_neg c2, if_neg c3, if_neg c4, if_neg c5, if_neg c6, if_neg c7, if_pos c8, hr])
  have H := fun W => hid (says53 (op - 192) W (by omega) (by omega))
  rw [show (op - 192).toNat = (op - 192).toNat by simp, ← hr] at H
  clear hr
  go_enter Tryz.func100, Tryz.ntmps100
  go_wp2_with fail
  refine (H _).out.mono ?_
  rintro e w1 ⟨rfl, hb⟩
  obtain ⟨hc, hf⟩ := bcell hb
  unfold lnV
  go_wp2
  exact bodyPost_ret (v := lnV r) (by simp [results, Tryz.results100, go_sem, hc, lnV]) rfl ⟨by rw [HP.out], below_four hb _ _ _ _⟩
set_option maxHeartbeats 1000000 in
theorem vec_last (op : Int) (w : World) (c0 : 0 ≤ op) (c1 : ¬ op < 14) (c2 : ¬ op < 35) (c3 : ¬ op < 77) (c4 : ¬ op < 96) (c5 : ¬ op < 128) (c6 : ¬ op < 160) (c7 : ¬ op < 192) (c8 : ¬ op < 224) (c9 : op < 256) : Calls Tryz.prog 100 #[.int .i64 op] w fun e w' => e = .returned (lnV (vectorL op)) ∧ Below w.heap.size w w' := by
  obtain ⟨r, hr⟩ : ∃ r, r = tab54.getD (op - 224).toNat ln0 := ⟨_, rfl⟩
  have HP := hid (show vectorL op = r by unfold vectorL; rw [if_neg c1, if_neg c2, if_neg c3, if_neg c4, if_neg c5, if_neg c6, if_neg c7, if_neg c8, hr])
  have H := fun W => hid (says54 (op - 224) W (by omega) (by omega))
  rw [← hr] at H
  clear hr
  go_enter Tryz.func100, Tryz.ntmps100
  go_wp2_with fail
  refine (H _).out.mono ?_
  rintro e w1 ⟨rfl, hb⟩
  obtain ⟨hc, hf⟩ := bcell hb
  unfold lnV
  go_wp2
  exact bodyPost_ret (v := lnV r) (by simp [results, Tryz.results100, go_sem, hc, lnV]) rfl ⟨by rw [HP.out], below_four hb _ _ _ _⟩
theorem vector_says (op : Int) (w : World) (h0 : 0 ≤ op) (h1 : op < 256) : Calls Tryz.prog 100 #[.int .i64 op] w fun e w' => e = .returned (lnV (vectorL op)) ∧ Below w.heap.size w w' := by
  by_cases d0 : op < 14
  · exact vec_0 op w h0 d0
  by_cases d1 : op < 35
  · exact vec_1 op w h0 d0 d1
  by_cases d2 : op < 77
  · exact vec_2 op w h0 d0 d1 d2
  by_cases d3 : op < 96
  · exact vec_3 op w h0 d0 d1 d2 d3
  by_cases d4 : op < 128
  · exact vec_4 op w h0 d0 d1 d2 d3 d4
  by_cases d5 : op < 160
  · exact vec_5 op w h0 d0 d1 d2 d3 d4 d5
  by_cases d6 : op < 192
  · exact vec_6 op w h0 d0 d1 d2 d3 d4 d5 d6
  by_cases d7 : op < 224
  · exact vec_7 op w h0 d0 d1 d2 d3 d4 d5 d6 d7
  exact vec_last op w h0 d0 d1 d2 d3 d4 d5 d6 d7 h1
set_option maxHeartbeats 1000000 in
theorem line_neg (op : Int) (w : World) (c0 : op < 0) : Calls Tryz.prog 61 #[.int .i64 op] w fun e w' => e = .returned (lnV (lineL op)) ∧ Below w.heap.size w w' := by
  have HP := hid (show lineL op = ln0 by unfold lineL; rw [if_pos c0])
  go_enter Tryz.func61, Tryz.ntmps61
  go_wp2_with fail
  exact bodyPost_ret (v := lnV ln0) (by simp [results, Tryz.results61, go_sem, lnV, ln0]) rfl ⟨by rw [HP.out], (Below.refl _ _).alloc (Nat.le_refl _) _⟩
set_option maxHeartbeats 1000000 in
theorem line_plain (op : Int) (w : World) (c0 : ¬ op < 0) (c1 : op < 211) : Calls Tryz.prog 61 #[.int .i64 op] w fun e w' => e = .returned (lnV (lineL op)) ∧ Below w.heap.size w w' := by
  obtain ⟨r, hr⟩ : ∃ r, r = plainL op := ⟨_, rfl⟩
  have HP := hid (show lineL op = r by unfold lineL; rw [if_neg c0, if_pos c1, hr])
  have H := fun W => hid (plain_says op W (by omega) c1)
  rw [← hr] at H
  clear hr
  go_enter Tryz.func61, Tryz.ntmps61
  go_wp2_with fail
  refine (H _).out.mono ?_
  rintro e w1 ⟨rfl, hb⟩
  obtain ⟨hc, hf⟩ := bcell hb
  unfold lnV
  go_wp2
  exact bodyPost_ret (v := lnV r) (by simp [results, Tryz.results61, go_sem, hc, lnV]) rfl ⟨by rw [HP.out], below_four hb _ _ _ _⟩
set_option maxHeartbeats 1000000 in
theorem line_bulk (op : Int) (w : World) (c0 : ¬ op < 0) (c1 : ¬ op < 211) (c2 : 64512 ≤ op) (c3 : op < 64530) : Calls Tryz.prog 61 #[.int .i64 op] w fun e w' => e = .returned (lnV (lineL op)) ∧ Below w.heap.size w w' := by
  obtain ⟨r, hr⟩ : ∃ r, r = tab37.getD (op - 64512).toNat ln0 := ⟨_, rfl⟩
  have HP := hid (show lineL op = r by unfold lineL; rw [if_neg c0, if_neg c1, if_pos ⟨c2, c3⟩, hr])
  have H := fun W => hid (says37 (op - 64512) W (by omega) (by omega))
  rw [← hr] at H
  clear hr
  go_enter Tryz.func61, Tryz.ntmps61
  go_wp2_with fail
  refine (H _).out.mono ?_
  rintro e w1 ⟨rfl, hb⟩
  obtain ⟨hc, hf⟩ := bcell hb
  unfold lnV
  go_wp2
  exact bodyPost_ret (v := lnV r) (by simp [results, Tryz.results61, go_sem, hc, lnV]) rfl ⟨by rw [HP.out], below_four hb _ _ _ _⟩
set_option maxHeartbeats 1000000 in
theorem line_vec (op : Int) (w : World) (c0 : ¬ op < 0) (c1 : ¬ op < 211) (c2 : ¬ op < 64530) (c3 : 64768 ≤ op) (c4 : op < 65024) : Calls Tryz.prog 61 #[.int .i64 op] w fun e w' => e = .returned (lnV (lineL op)) ∧ Below w.heap.size w w' := by
  obtain ⟨r, hr⟩ : ∃ r, r = vectorL (op - 64768) := ⟨_, rfl⟩
  have HP := hid (show lineL op = r by unfold lineL; rw [if_neg c0, if_neg c1, if_neg (fun h => c2 h.2), if_pos ⟨c3, c4⟩, hr])
  have H := fun W => hid (vector_says (op - 64768) W (by omega) (by omega))
  rw [← hr] at H
  clear hr
  have q : 64512 ≤ op := by omega
  go_enter Tryz.func61, Tryz.ntmps61
  go_wp2_with fail
  refine (H _).out.mono ?_
  rintro e w1 ⟨rfl, hb⟩
  obtain ⟨hc, hf⟩ := bcell hb
  unfold lnV
  go_wp2
  exact bodyPost_ret (v := lnV r) (by simp [results, Tryz.results61, go_sem, hc, lnV]) rfl ⟨by rw [HP.out], below_four hb _ _ _ _⟩
set_option maxHeartbeats 1000000 in
theorem line_gap1 (op : Int) (w : World) (c0 : ¬ op < 0) (c1 : ¬ op < 211) (c2 : ¬ 64512 ≤ op) : Calls Tryz.prog 61 #[.int .i64 op] w fun e w' => e = .returned (lnV (lineL op)) ∧ Below w.heap.size w w' := by
  have HP := hid (show lineL op = ln0 by unfold lineL; rw [if_neg c0, if_neg c1, if_neg (fun h => c2 h.1), if_neg (fun h => c2 (by omega))])
  have q : ¬ 64768 ≤ op := by omega
  go_enter Tryz.func61, Tryz.ntmps61
  go_wp2_with fail
  exact bodyPost_ret (v := lnV ln0) (by simp [results, Tryz.results61, go_sem, lnV, ln0]) rfl ⟨by rw [HP.out], (Below.refl _ _).alloc (Nat.le_refl _) _⟩
set_option maxHeartbeats 1000000 in
theorem line_gap2 (op : Int) (w : World) (c0 : ¬ op < 0) (c1 : ¬ op < 211) (c2 : 64512 ≤ op) (c3 : ¬ op < 64530) (c4 : ¬ 64768 ≤ op) : Calls Tryz.prog 61 #[.int .i64 op] w fun e w' => e = .returned (lnV (lineL op)) ∧ Below w.heap.size w w' := by
  have HP := hid (show lineL op = ln0 by unfold lineL; rw [if_neg c0, if_neg c1, if_neg (fun h => c3 h.2), if_neg (fun h => c4 h.1)])
  go_enter Tryz.func61, Tryz.ntmps61
  go_wp2_with fail
  exact bodyPost_ret (v := lnV ln0) (by simp [results, Tryz.results61, go_sem, lnV, ln0]) rfl ⟨by rw [HP.out], (Below.refl _ _).alloc (Nat.le_refl _) _⟩
set_option maxHeartbeats 1000000 in
theorem line_gap3 (op : Int) (w : World) (c0 : ¬ op < 0) (c1 : ¬ op < 211) (c2 : 64512 ≤ op) (c3 : ¬ op < 64530) (c4 : 64768 ≤ op) (c5 : ¬ op < 65024) : Calls Tryz.prog 61 #[.int .i64 op] w fun e w' => e = .returned (lnV (lineL op)) ∧ Below w.heap.size w w' := by
  have HP := hid (show lineL op = ln0 by unfold lineL; rw [if_neg c0, if_neg c1, if_neg (fun h => c3 h.2), if_neg (fun h => c5 h.2)])
  go_enter Tryz.func61, Tryz.ntmps61
  go_wp2_with fail
  exact bodyPost_ret (v := lnV ln0) (by simp [results, Tryz.results61, go_sem, lnV, ln0]) rfl ⟨by rw [HP.out], (Below.refl _ _).alloc (Nat.le_refl _) _⟩
/-- The program's lineOf, of any number. -/
theorem line_says (op : Int) (w : World) : Calls Tryz.prog 61 #[.int .i64 op] w fun e w' => e = .returned (lnV (lineL op)) ∧ Below w.heap.size w w' := by
  by_cases c0 : op < 0
  · exact line_neg op w c0
  by_cases c1 : op < 211
  · exact line_plain op w c0 c1
  by_cases c2 : 64512 ≤ op
  · by_cases c3 : op < 64530
    · exact line_bulk op w c0 c1 c2 c3
    by_cases c4 : 64768 ≤ op
    · by_cases c5 : op < 65024
      · exact line_vec op w c0 c1 c3 c4 c5
      · exact line_gap3 op w c0 c1 c2 c3 c4 c5
    · exact line_gap2 op w c0 c1 c2 c3 c4
  · exact line_gap1 op w c0 c1 c2
end Go.Proofs.YtlhakbkdlgejpaaGreatDoor
namespace Go.Proofs.YtlhakbkdlgejpaaGreatDoor
open Go.RowKit
def glob0 : List Int := [2, 3, 2, 3, 0, 0, 1, 1, 0, 0, 1, 1, 2, 2, 2, 3, 2, 3, 0, 1, 0, 1, 2]
def glob1 : List Int := [4, 3, 3, 3, 3, 3, 3, 0, 1, 2, 3, 4]
def glob2 : List Int := [0, 1, 2, 3, 0, 1, 2, 3, 2, 3]
def glob3 : List Int := [16, 16, 16, 8, 8, 8, 4, 4, 2, 2, 4, 4, 2, 2]
def glob5 : List Int := [0, 0, 0, 0, 0, 0, 127, 0, 0, 126, 0, 0, 125, 0, 0, 124, 0, 0, 123, 0, 0, 112, 0, 0, 127, 127, 0, 127, 126, 0, 127, 125, 0, 127, 124, 0, 127, 123, 0, 126, 126, 0, 125, 125, 0, 124, 124, 0, 123, 127, 0, 123, 126, 0, 123, 125, 0, 123, 124, 0, 123, 123, 0, 127, 127, 127, 123, 123, 123]
/-- Five tables lie in the first six blocks. -/
structure Glob (w : World) : Prop where
  size : 6 ≤ w.heap.size
  c0 : ∀ j, j < 23 → w.cell? ⟨3, j, none⟩ = some (.int .i64 (glob0.getD j 0))
  c1 : ∀ j, j < 12 → w.cell? ⟨4, j, none⟩ = some (.int .i64 (glob1.getD j 0))
  c2 : ∀ j, j < 10 → w.cell? ⟨5, j, none⟩ = some (.int .i64 (glob2.getD j 0))
  c3 : ∀ j, j < 14 → w.cell? ⟨0, j, none⟩ = some (.int .i64 (glob3.getD j 0))
  c5 : ∀ j, j < 69 → w.cell? ⟨1, j, none⟩ = some (.int .i64 (glob5.getD j 0))
theorem Glob.below {B : Nat} {w w' : World} (h : Glob w) (hb : Below B w w') (hB : 6 ≤ B) : Glob w' where
  size := Nat.le_trans h.size hb.size
  c0 j hj := by rw [hb.cell (p := ⟨3, j, none⟩) (show 3 < B by omega), h.c0 j hj]
  c1 j hj := by rw [hb.cell (p := ⟨4, j, none⟩) (show 4 < B by omega), h.c1 j hj]
  c2 j hj := by rw [hb.cell (p := ⟨5, j, none⟩) (show 5 < B by omega), h.c2 j hj]
  c3 j hj := by rw [hb.cell (p := ⟨0, j, none⟩) (show 0 < B by omega), h.c3 j hj]
  c5 j hj := by rw [hb.cell (p := ⟨1, j, none⟩) (show 1 < B by omega), h.c5 j hj]
theorem Glob.next {w w' : World} (h : Glob w) (hb : Below w.heap.size w w') : Glob w' := h.below hb h.size
/-- The numbers that may be an instruction's. -/
def rangeOps : List Int := (List.range 211).map (fun k : Nat => (k : Int)) ++ (List.range 18).map (fun k : Nat => 64512 + (k : Int)) ++ (List.range 256).map (fun k : Nat => 64768 + (k : Int))
theorem mem_rangeOps (op : Int) : op ∈ rangeOps ↔ (0 ≤ op ∧ op < 211) ∨ (64512 ≤ op ∧ op < 64530) ∨ (64768 ≤ op ∧ op < 65024) := by
  unfold rangeOps
  simp only [List.mem_append, List.mem_map, List.mem_range]
  constructor
  · rintro ((⟨k, hk, rfl⟩ | ⟨k, hk, rfl⟩) | ⟨k, hk, rfl⟩) <;> omega
  · rintro (⟨h0, h1⟩ | ⟨h0, h1⟩ | ⟨h0, h1⟩)
    · exact .inl (.inl ⟨op.toNat, by omega, by omega⟩)
    · exact .inl (.inr ⟨(op - 64512).toNat, by omega, by omega⟩)
    · exact .inr ⟨(op - 64768).toNat, by omega, by omega⟩
theorem lineL_out (op : Int) (h : ¬ op ∈ rangeOps) : lineL op = ln0 := by
  rw [mem_rangeOps] at h
  unfold lineL
  by_cases c0 : op < 0
  · rw [if_pos c0]
  rw [if_neg c0, if_neg (by omega), if_neg (by omega), if_neg (by omega)]
def okLn (r : Ln) : Bool := decide (0 ≤ r.2.1) && decide (r.2.1 ≤ 26) && decide (0 ≤ r.2.2.1) && decide (r.2.2.1 < 23) && decide (0 ≤ r.2.2.2) && decide (r.2.2.2 < 23)
set_option maxRecDepth 100000 in
theorem all_ok : (rangeOps.all fun op => okLn (lineL op)) = true := by kernel_rfl
theorem line_ok (op : Int) : 0 ≤ (lineL op).2.1 ∧ (lineL op).2.1 ≤ 26 ∧ 0 ≤ (lineL op).2.2.1 ∧ (lineL op).2.2.1 < 23 ∧ 0 ≤ (lineL op).2.2.2 ∧ (lineL op).2.2.2 < 23 := by
  have h : okLn (lineL op) = true := by
    by_cases hin : op ∈ rangeOps
    · exact List.all_eq_true.1 all_ok op hin
    · rw [lineL_out op hin]; rfl
  unfold okLn at h
  simp only [Bool.and_eq_true, decide_eq_true_eq] at h
  omega
/-- Is there such an instruction? -/
def knB (r : Ln) : Bool := !r.1.toList.isEmpty
def fxB (r : Ln) : Bool := r.2.2.1 != 0
theorem known_says (r : Ln) (w : World) : Calls Tryz.prog 82 #[lnV r] w fun e w' => e = .returned (.bool (knB r)) ∧ Below w.heap.size w w' := by
  obtain ⟨s, a, b, c⟩ := r
  show Calls Tryz.prog 82 #[.agg #[.string s, .int .u8 a, .int .u8 b, .int .u8 c]] w fun e w' => e = .returned (.bool (!s.toList.isEmpty)) ∧ Below w.heap.size w w'
  go_enter Tryz.func82, Tryz.ntmps82
  go_wp2
  go_ret
  exact ⟨rfl, (Below.refl _ _).alloc (Nat.le_refl _) _⟩
theorem fixed_says (r : Ln) (w : World) : Calls Tryz.prog 62 #[lnV r] w fun e w' => e = .returned (.bool (fxB r)) ∧ Below w.heap.size w w' := by
  obtain ⟨s, a, b, c⟩ := r
  show Calls Tryz.prog 62 #[.agg #[.string s, .int .u8 a, .int .u8 b, .int .u8 c]] w fun e w' => e = .returned (.bool (b != 0)) ∧ Below w.heap.size w w'
  go_enter Tryz.func62, Tryz.ntmps62
  go_wp2
  go_ret
  exact ⟨rfl, (Below.refl _ _).alloc (Nat.le_refl _) _⟩
theorem run_name (r : Ln) (w : World) : (Instr.field 76 (lnV r) 0).run Tryz.prog w = .ok (.string r.1) w := by kernel_rfl
theorem run_imm (r : Ln) (w : World) : (Instr.field 76 (lnV r) 1).run Tryz.prog w = .ok (.int .u8 r.2.1) w := by kernel_rfl
theorem Known_says (op : Int) (w : World) : Calls Tryz.prog 45 #[.int .i64 op] w fun e w' => e = .returned (.bool (knB (lineL op))) ∧ Below w.heap.size w w' := by
  obtain ⟨r, hr⟩ : ∃ r, r = lineL op := ⟨_, rfl⟩
  have H := fun W => hid (line_says op W)
  have HK := fun W => hid (known_says r W)
  rw [← hr] at H ⊢
  clear hr
  obtain ⟨b, hb0⟩ : ∃ b, b = knB r := ⟨_, rfl⟩
  rw [← hb0] at HK ⊢
  clear hb0
  obtain ⟨v, hv⟩ : ∃ v, v = lnV r := ⟨_, rfl⟩
  rw [← hv] at H HK
  clear hv
  go_enter Tryz.func45, Tryz.ntmps45
  go_wp2_with (first | (go_at_call 61; refine (H _).out.mono ?_; rintro e w1 ⟨rfl, hb⟩) | (go_at_call 82; refine (HK _).out.mono ?_; rintro e w2 ⟨rfl, hb2⟩))
  go_ret
  exact ⟨rfl, hb.trans (hb2.mono hb.size)⟩
theorem Name_says (op : Int) (w : World) : Calls Tryz.prog 32 #[.int .i64 op] w fun e w' => e = .returned (.string (lineL op).1) ∧ Below w.heap.size w w' := by
  obtain ⟨r, hr⟩ : ∃ r, r = lineL op := ⟨_, rfl⟩
  have H := fun W => hid (line_says op W)
  have HF := run_name r
  rw [← hr] at H ⊢
  clear hr
  obtain ⟨v, hv⟩ : ∃ v, v = lnV r := ⟨_, rfl⟩
  rw [← hv] at H HF
  clear hv
  go_enter Tryz.func32, Tryz.ntmps32
  go_wp2_with (go_at_call 61; refine (H _).out.mono ?_; rintro e w1 ⟨rfl, hb⟩)
  go_ret
  exact ⟨rfl, hb⟩
theorem Imm_says (op : Int) (w : World) : Calls Tryz.prog 46 #[.int .i64 op] w fun e w' => e = .returned (.int .i64 (lineL op).2.1) ∧ Below w.heap.size w w' := by
  obtain ⟨h0, h1, _⟩ := line_ok op
  obtain ⟨r, hr⟩ : ∃ r, r = lineL op := ⟨_, rfl⟩
  have H := fun W => hid (line_says op W)
  have HF := run_imm r
  rw [← hr] at H h0 h1 ⊢
  clear hr
  obtain ⟨v, hv⟩ : ∃ v, v = lnV r := ⟨_, rfl⟩
  rw [← hv] at H HF
  clear hv
  go_enter Tryz.func46, Tryz.ntmps46
  go_wp2_with (go_at_call 61; refine (H _).out.mono ?_; rintro e w1 ⟨rfl, hb⟩)
  go_ret
  exact ⟨rfl, hb⟩
end Go.Proofs.YtlhakbkdlgejpaaGreatDoor
namespace Go.Proofs.YtlhakbkdlgejpaaGreatDoor
open Go.RowKit
theorem info3 : (Tryz.prog.info? 3).map (fun i => (i.zero, i.size, i.bytes)) = some (some (.int .i64 0), 1, 8) := by kernel_rfl
def ic (l : List Int) : List Value := l.map (Value.int .i64)
theorem append_int {w : World} {ops : Array Oper} {rest : List Oper} {o : Oper} {a : Act} {Q : Exit → Act → World → Prop} (hgd : o.guard = none) (s x : Operand)
    (ho : o.op = .call { callee := .builtin .append, args := #[s, x], argTypes := #[26, 26] }) (base : Nat) (v : Value) (n : Nat) (xs : List Value) (q : Int)
    (hown : w.ownsRow base 3 1 v n xs) (hbase : base ≤ w.heap.size) (hn : n + 1 ≤ 1000000) (hs : a.eval s = v) (hx : a.eval x = .slice (some ⟨w.heap.size, 0, none⟩) 1 1)
    (h : ∀ v' w', w'.ownsRow base 3 1 v' (n + 1) (xs ++ [.int .i64 q]) → Below base w w' → base ≤ w'.heap.size → wpList Tryz.prog ops Q rest (a.put o.dst v') w') :
    wpList Tryz.prog ops Q (o :: rest) a (w.alloc (.cells #[.int .i64 q] 3)) := by
  obtain ⟨i0, hi, hz0, hz1, hz2⟩ := info_parts info3
  have hb1 := (Below.refl base w).alloc hbase (.cells #[.int .i64 q] 3)
  refine wpList_append_own _ hgd s x 26 ho base 3 i0 (.int .i64 0) 1 8 Tryz.underlying26 hi hz0 hz1 hz2 rfl (by decide) v n xs hs (hown.alloc _) ⟨w.heap.size, 0, none⟩ 1 1 [.int .i64 q] hx rfl (cell_one_new _ _ _)
    (fun u hu => by simp at hu; subst hu; rfl) (by unfold maxLen; omega) (by omega) (by simp; omega) ?_
  intro v' w1 hown' hgrow _
  exact h v' w1 hown' (hb1.grown hgrow (by simp; omega) (fun k hk => (hown.lt k hk).1)) (by have := hgrow.size; simp at this; omega)
theorem own_below {B : Nat} {w w' : World} {base : Nat} {e : TypeId} {s n : Nat} {v : Value} {xs : List Value} (h : w.ownsRow base e s v n xs) (hb : Below B w w') (hB : w.heap.size ≤ B) : w'.ownsRow base e s v n xs := by
  refine ⟨h.1, ?_⟩
  rcases h.2 with h2 | ⟨g, cap, cur, e1, e2, e3, e4⟩
  · exact .inl h2
  · refine .inr ⟨g, cap, cur, e1, e2, ?_, e4⟩
    have hlt : g < w.heap.size := (Array.getElem?_eq_some_iff.1 e3).1
    rw [hb.block g (by omega), e3]
theorem own_mono {w : World} {base base' : Nat} {e : TypeId} {s n : Nat} {v : Value} {xs : List Value} (h : w.ownsRow base e s v n xs) (hb : base' ≤ base) : w.ownsRow base' e s v n xs := by
  refine ⟨h.1, ?_⟩
  rcases h.2 with h2 | ⟨g, cap, cur, e1, e2, e3⟩
  · exact .inl h2
  · exact .inr ⟨g, cap, cur, e1, by omega, e3⟩
end Go.Proofs.YtlhakbkdlgejpaaGreatDoor
namespace Go.Proofs.YtlhakbkdlgejpaaGreatDoor
open Go.RowKit
/-- Block g holds these cells. -/
def CA (g : Nat) (cs : Array Value) (T : TypeId) (W : World) : Prop := W.heap[g]? = some (.cells cs T (0, 0))
theorem CA.lt {g : Nat} {cs : Array Value} {T : TypeId} {W : World} (h : CA g cs T W) : g < W.heap.size := (Array.getElem?_eq_some_iff.1 h).1
theorem CA.new (w : World) (cs : Array Value) (T : TypeId) : CA w.heap.size cs T (w.alloc (.cells cs T)) := by
  show (w.heap.push _)[w.heap.size]? = _
  simp
theorem CA.call {g : Nat} {cs : Array Value} {T : TypeId} {W W' : World} (h : CA g cs T W) (hb : Below W.heap.size W W') : CA g cs T W' := by
  unfold CA at h ⊢
  rw [hb.block g (CA.lt h), h]
theorem CA.below {g B : Nat} {cs : Array Value} {T : TypeId} {W W' : World} (h : CA g cs T W) (hb : Below B W W') (hg : g < B) : CA g cs T W' := by
  unfold CA at h ⊢
  rw [hb.block g hg, h]
theorem CA.alloc {g : Nat} {cs : Array Value} {T : TypeId} {W : World} (h : CA g cs T W) (o : Obj) : CA g cs T (W.alloc o) := h.call ((Below.refl _ _).alloc (Nat.le_refl _) o)
theorem CA.drew {g : Nat} {cs : Array Value} {T : TypeId} {W : World} (h : CA g cs T W) : CA g cs T W.drew := h
theorem CA.at {g k : Nat} {cs : Array Value} {T : TypeId} {W : World} {v : Value} (h : CA g cs T W) (hk : cs[k]? = some v) : W.cell? ⟨g, k, none⟩ = some v := by
  unfold CA at h
  rw [World.cell?, h]
  simp [hk]
theorem CA.free {g : Nat} {cs : Array Value} {T : TypeId} {W : World} (h : CA g cs T W) (k : Nat) : W.frozen? ⟨g, k, none⟩ = false := by
  unfold CA at h
  rw [World.frozen?, h]
  simp
theorem CA.set {g k : Nat} {cs : Array Value} {T : TypeId} {W : World} (h : CA g cs T W) (v : Value) : CA g (cs.setIfInBounds k v) T (W.setCell ⟨g, k, none⟩ v) := by
  unfold CA at h ⊢
  rw [World.setCell, Array.getElem?_modify, if_pos rfl, h]
  rfl
theorem CA.far {g c o : Nat} {cs : Array Value} {T : TypeId} {W : World} (h : CA g cs T W) (hne : c ≠ g) (v : Value) : CA g cs T (W.setCell ⟨c, o, none⟩ v) := by
  unfold CA at h ⊢
  rw [World.setCell, Array.getElem?_modify, if_neg hne, h]
/-- A slice of n numbers that can be read and written. -/
def RowAt (w : World) (v : Value) (n : Nat) (F : Nat → Nat) : Prop :=
  ∃ g o cap, v = .slice (some ⟨g, o, none⟩) n cap ∧ g < w.heap.size ∧ n ≤ cap ∧ ∀ j, j < n → w.cell? ⟨g, o + j, none⟩ = some (.int .u64 (F j : Nat)) ∧ w.frozen? ⟨g, o + j, none⟩ = false
theorem RowAt.call {w w' : World} {v : Value} {n : Nat} {F : Nat → Nat} (h : RowAt w v n F) (hb : Below w.heap.size w w') : RowAt w' v n F := by
  obtain ⟨g, o, cap, e, hl, hc, ha⟩ := h
  refine ⟨g, o, cap, e, Nat.lt_of_lt_of_le hl hb.size, hc, fun j hj => ?_⟩
  rw [hb.cell (p := ⟨g, o + j, none⟩) hl, hb.frozen (p := ⟨g, o + j, none⟩) hl]
  exact ha j hj
theorem RowAt.of_own {w : World} {base : Nat} {v : Value} {n : Nat} {F : Nat → Nat} (h : w.ownsRow base 22 1 v n (fc n F)) (hn : 1 ≤ n) : RowAt w v n F := by
  have h0 := h
  rcases h.2 with ⟨_, h2⟩ | ⟨g, cap, cur, rfl, e2, e3, e4, _⟩
  · omega
  · refine ⟨g, 0, cap, rfl, (Array.getElem?_eq_some_iff.1 e3).1, e4, fun j hj => ?_⟩
    rw [Nat.zero_add]
    exact ⟨by rw [h0.cellAt j (by rw [Nat.mul_one]; exact hj), fc_get hj], h0.frozenAt j⟩
theorem RowAt.congr {w : World} {v : Value} {n : Nat} {F G : Nat → Nat} (h : RowAt w v n F) (e : ∀ j, j < n → F j = G j) : RowAt w v n G := by
  obtain ⟨g, o, cap, e1, hl, hc, ha⟩ := h
  exact ⟨g, o, cap, e1, hl, hc, fun j hj => by rw [← e j hj]; exact ha j hj⟩
end Go.Proofs.YtlhakbkdlgejpaaGreatDoor
namespace Go.Proofs.YtlhakbkdlgejpaaGreatDoor
open Go.RowKit
def str (l : List UInt8) : ByteArray := ⟨l.toArray⟩
theorem str_list (l : List UInt8) : (str l).toList = l := by rw [ByteArray.toList_eq]; rfl
theorem str_size (l : List UInt8) : (str l).size = l.length := by simp [str, ByteArray.size]
theorem str_get (l : List UInt8) (n : Nat) (h : n < l.length) (h' : n < (str l).size) : (str l)[n]'h' = l[n] := by
  show (l.toArray)[n]'(by simpa using h) = l[n]
  rfl
theorem str_snoc (x l : List UInt8) (n : Nat) (h : n < l.length) : str x ++ (str l).extract n (n + 1) = str (x ++ [l[n]]) := by
  apply ByteArray.ext
  simp only [ByteArray.data_append, ByteArray.data_extract, str]
  rw [List.extract_toArray, List.append_toArray]
  congr 2
  rw [List.extract_eq_take_drop, Nat.add_sub_cancel_left, List.drop_eq_getElem_cons h]
  rfl
def sc (l : List (List UInt8)) : List Value := l.map fun x => Value.string (str x)
theorem info9 : (Tryz.prog.info? 9).map (fun i => (i.zero, i.size, i.bytes)) = some (some (.string ⟨#[]⟩), 1, 16) := by kernel_rfl
theorem append_str {w : World} {ops : Array Oper} {rest : List Oper} {o : Oper} {a : Act} {Q : Exit → Act → World → Prop} (hgd : o.guard = none) (s x : Operand)
    (ho : o.op = .call { callee := .builtin .append, args := #[s, x], argTypes := #[59, 59] }) (base : Nat) (v : Value) (n : Nat) (xs : List Value) (q : ByteArray)
    (hown : w.ownsRow base 9 1 v n xs) (hbase : base ≤ w.heap.size) (hn : n + 1 ≤ 1000000) (hs : a.eval s = v) (hx : a.eval x = .slice (some ⟨w.heap.size, 0, none⟩) 1 1)
    (h : ∀ v' w', w'.ownsRow base 9 1 v' (n + 1) (xs ++ [.string q]) → Below base w w' → base ≤ w'.heap.size → wpList Tryz.prog ops Q rest (a.put o.dst v') w') :
    wpList Tryz.prog ops Q (o :: rest) a (w.alloc (.cells #[.string q] 9)) := by
  obtain ⟨i0, hi, hz0, hz1, hz2⟩ := info_parts info9
  have hb1 := (Below.refl base w).alloc hbase (.cells #[.string q] 9)
  refine wpList_append_own _ hgd s x 59 ho base 9 i0 (.string ⟨#[]⟩) 1 16 Tryz.underlying59 hi hz0 hz1 hz2 rfl (by decide) v n xs hs (hown.alloc _) ⟨w.heap.size, 0, none⟩ 1 1 [.string q] hx rfl (cell_one_new _ _ _)
    (fun u hu => by simp at hu; subst hu; rfl) (by unfold maxLen; omega) (by omega) (by simp; omega) ?_
  intro v' w1 hown' hgrow _
  exact h v' w1 hown' (hb1.grown hgrow (by simp; omega) (fun k hk => (hown.lt k hk).1)) (by have := hgrow.size; simp at this; omega)
/-- A step over a text's byte: the words so far, the word at hand. -/
def stepW (p : List (List UInt8) × List UInt8) (c : UInt8) : List (List UInt8) × List UInt8 :=
  match p with
  | (o, x) => if c = 32 then (if x = [] then (o, []) else (o ++ [x], [])) else (o, x ++ [c])
def wst (l : List UInt8) (n : Nat) : List (List UInt8) × List UInt8 := ((l ++ [32]).take n).foldl stepW ([], [])
/-- The words of a text. -/
def wordsL (l : List UInt8) : List (List UInt8) := (wst l (l.length + 1)).1
theorem wst_succ (l : List UInt8) (n : Nat) (c : UInt8) (h : (l ++ [32])[n]? = some c) : wst l (n + 1) = stepW (wst l n) c := by
  unfold wst
  rw [List.take_add_one, h, List.foldl_append]
  rfl
theorem wst_len (l : List UInt8) (n : Nat) : (wst l n).1.length + (wst l n).2.length ≤ n := by
  induction n with
  | zero => simp [wst]
  | succ n ih =>
    cases h : (l ++ [32])[n]? with
    | none =>
      have e : wst l (n + 1) = wst l n := by unfold wst; rw [List.take_add_one, h]; simp
      rw [e]; omega
    | some c =>
      rw [wst_succ l n c h]
      generalize wst l n = p at ih
      obtain ⟨o, x⟩ := p
      simp only [stepW] at ih ⊢
      split
      · split
        · rename_i hx; subst hx; simp at ih ⊢; omega
        · rename_i hx
          have : 0 < x.length := List.length_pos_iff.2 hx
          simp; omega
      · simp; omega
end Go.Proofs.YtlhakbkdlgejpaaGreatDoor
