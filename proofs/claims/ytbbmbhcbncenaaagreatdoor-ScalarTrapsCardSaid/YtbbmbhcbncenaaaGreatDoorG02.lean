/-
  Line, Ops1, OwnB, Types, Sign, RStr, RTabs, RDig: merged, what the law does not reach left out (each text says what it holds where it lies in wip). No condition.
-/
import Derived.Test.YtbbmbhcbncenaaaGreatDoorG01
import Derived.OwnWalk
import Derived.Laws.AppendOwnNone
import Derived.Deep.RegionWith
import Derived.Deep.RegionHeld3
import Derived.Laws.Concat
set_option linter.unusedSimpArgs false
set_option linter.unusedVariables false
set_option maxRecDepth 100000
namespace Go.Proofs.YtbbmbhcbncenaaaGreatDoor
open Go.RowKit
theorem bcell {W w1 : World} (hb : Below W.heap.size W w1) : (∀ b o,b < W.heap.size → w1.cell? ⟨b,o,none⟩ = W.cell? ⟨b,o,none⟩) ∧ (∀ b o,b < W.heap.size → w1.frozen? ⟨b,o,none⟩ = W.frozen? ⟨b,o,none⟩) :=
 ⟨fun b o h => hb.cell (p := ⟨b,o,none⟩) h,fun b o h => hb.frozen (p := ⟨b,o,none⟩) h⟩
theorem below_four {w w1 : World} {o : Obj} (hb : Below (w.alloc o).heap.size (w.alloc o) w1) (a b c d : Value) :
  Below w.heap.size w ((((w1.setCell ⟨w.heap.size,0,none⟩ a).setCell ⟨w.heap.size,1,none⟩ b).setCell ⟨w.heap.size,2,none⟩ c).setCell ⟨w.heap.size,3,none⟩ d) :=
 ((((((Below.refl _ _).alloc (Nat.le_refl _) o).trans (hb.mono (by simp))).setCell (Nat.le_refl _) _).setCell (Nat.le_refl _) _).setCell (Nat.le_refl _) _).setCell (Nat.le_refl _) _
noncomputable def plainL (op : Int) : Ln :=
 if op < 40 then tab39.getD (op - 0).toNat ln0 else if op < 69 then tab40.getD (op - 40).toNat ln0 else if op < 103 then tab41.getD (op - 69).toNat ln0 else if op < 139 then tab42.getD (op - 103).toNat ln0 else if op < 167 then tab43.getD (op - 139).toNat ln0 else if op < 197 then tab44.getD (op - 167).toNat ln0 else if 208 ≤ op then tab45.getD (op - 208).toNat ln0 else ln0
noncomputable def vectorL (op : Int) : Ln :=
 if op < 14 then tab46.getD (op - 0).toNat ln0 else if op < 35 then tab47.getD (op - 14).toNat ln0 else if op < 77 then tab48.getD (op - 35).toNat ln0 else if op < 96 then tab49.getD (op - 77).toNat ln0 else if op < 128 then tab50.getD (op - 96).toNat ln0 else if op < 160 then tab51.getD (op - 128).toNat ln0 else if op < 192 then tab52.getD (op - 160).toNat ln0 else if op < 224 then tab53.getD (op - 192).toNat ln0 else tab54.getD (op - 224).toNat ln0
noncomputable def lineL (op : Int) : Ln :=
 if op < 0 then ln0 else if op < 211 then plainL op else if 64512 ≤ op ∧ op < 64530 then tab37.getD (op - 64512).toNat ln0 else if 64768 ≤ op ∧ op < 65024 then vectorL (op - 64768) else ln0
set_option maxHeartbeats 1000000 in
theorem plain_0 (op : Int) (w : World) (c0 : 0 ≤ op) (c1 : op < 40) : Calls Tryz.prog 40 #[.int .i64 op] w fun e w' => e = .returned (lnV (plainL op)) ∧ Below w.heap.size w w' := by
 obtain ⟨r,hr⟩ : ∃ r,r = tab39.getD (op - 0).toNat ln0 := ⟨_,rfl⟩
 have HP := hid (show plainL op = r by unfold plainL; rw [if_pos c1,hr])
 have H := fun W => hid (says39 op W (by omega) (by omega))
 rw [show op.toNat = (op - 0).toNat by simp,← hr] at H
 clear hr
 go_enter Tryz.func40,Tryz.ntmps40
 go_wp2_with fail
 refine (H _).out.mono ?_
 rintro e w1 ⟨rfl,hb⟩
 obtain ⟨hc,hf⟩ := bcell hb
 unfold lnV
 go_wp2
 exact bodyPost_ret (v := lnV r) (by simp [results,Tryz.results40,go_sem,hc,lnV]) rfl ⟨by rw [HP.out],below_four hb _ _ _ _⟩
set_option maxHeartbeats 1000000 in
theorem plain_1 (op : Int) (w : World) (c0 : 0 ≤ op) (c1 : ¬ op < 40) (c2 : op < 69) : Calls Tryz.prog 40 #[.int .i64 op] w fun e w' => e = .returned (lnV (plainL op)) ∧ Below w.heap.size w w' := by
 obtain ⟨r,hr⟩ : ∃ r,r = tab40.getD (op - 40).toNat ln0 := ⟨_,rfl⟩
 have HP := hid (show plainL op = r by unfold plainL; rw [if_neg c1,if_pos c2,hr])
 have H := fun W => hid (says40 (op - 40) W (by omega) (by omega))
 rw [show (op - 40).toNat = (op - 40).toNat by simp,← hr] at H
 clear hr
 go_enter Tryz.func40,Tryz.ntmps40
 go_wp2_with fail
 refine (H _).out.mono ?_
 rintro e w1 ⟨rfl,hb⟩
 obtain ⟨hc,hf⟩ := bcell hb
 unfold lnV
 go_wp2
 exact bodyPost_ret (v := lnV r) (by simp [results,Tryz.results40,go_sem,hc,lnV]) rfl ⟨by rw [HP.out],below_four hb _ _ _ _⟩
set_option maxHeartbeats 1000000 in
theorem plain_2 (op : Int) (w : World) (c0 : 0 ≤ op) (c1 : ¬ op < 40) (c2 : ¬ op < 69) (c3 : op < 103) : Calls Tryz.prog 40 #[.int .i64 op] w fun e w' => e = .returned (lnV (plainL op)) ∧ Below w.heap.size w w' := by
 obtain ⟨r,hr⟩ : ∃ r,r = tab41.getD (op - 69).toNat ln0 := ⟨_,rfl⟩
 have HP := hid (show plainL op = r by unfold plainL; rw [if_neg c1,if_neg c2,if_pos c3,hr])
 have H := fun W => hid (says41 (op - 69) W (by omega) (by omega))
 rw [show (op - 69).toNat = (op - 69).toNat by simp,← hr] at H
 clear hr
 go_enter Tryz.func40,Tryz.ntmps40
 go_wp2_with fail
 refine (H _).out.mono ?_
 rintro e w1 ⟨rfl,hb⟩
 obtain ⟨hc,hf⟩ := bcell hb
 unfold lnV
 go_wp2
 exact bodyPost_ret (v := lnV r) (by simp [results,Tryz.results40,go_sem,hc,lnV]) rfl ⟨by rw [HP.out],below_four hb _ _ _ _⟩
set_option maxHeartbeats 1000000 in
theorem plain_3 (op : Int) (w : World) (c0 : 0 ≤ op) (c1 : ¬ op < 40) (c2 : ¬ op < 69) (c3 : ¬ op < 103) (c4 : op < 139) : Calls Tryz.prog 40 #[.int .i64 op] w fun e w' => e = .returned (lnV (plainL op)) ∧ Below w.heap.size w w' := by
 obtain ⟨r,hr⟩ : ∃ r,r = tab42.getD (op - 103).toNat ln0 := ⟨_,rfl⟩
 have HP := hid (show plainL op = r by unfold plainL; rw [if_neg c1,if_neg c2,if_neg c3,if_pos c4,hr])
 have H := fun W => hid (says42 (op - 103) W (by omega) (by omega))
 rw [show (op - 103).toNat = (op - 103).toNat by simp,← hr] at H
 clear hr
 go_enter Tryz.func40,Tryz.ntmps40
 go_wp2_with fail
 refine (H _).out.mono ?_
 rintro e w1 ⟨rfl,hb⟩
 obtain ⟨hc,hf⟩ := bcell hb
 unfold lnV
 go_wp2
 exact bodyPost_ret (v := lnV r) (by simp [results,Tryz.results40,go_sem,hc,lnV]) rfl ⟨by rw [HP.out],below_four hb _ _ _ _⟩
set_option maxHeartbeats 1000000 in
theorem plain_4 (op : Int) (w : World) (c0 : 0 ≤ op) (c1 : ¬ op < 40) (c2 : ¬ op < 69) (c3 : ¬ op < 103) (c4 : ¬ op < 139) (c5 : op < 167) : Calls Tryz.prog 40 #[.int .i64 op] w fun e w' => e = .returned (lnV (plainL op)) ∧ Below w.heap.size w w' := by
 obtain ⟨r,hr⟩ : ∃ r,r = tab43.getD (op - 139).toNat ln0 := ⟨_,rfl⟩
 have HP := hid (show plainL op = r by unfold plainL; rw [if_neg c1,if_neg c2,if_neg c3,if_neg c4,if_pos c5,hr])
 have H := fun W => hid (says43 (op - 139) W (by omega) (by omega))
 rw [show (op - 139).toNat = (op - 139).toNat by simp,← hr] at H
 clear hr
 go_enter Tryz.func40,Tryz.ntmps40
 go_wp2_with fail
 refine (H _).out.mono ?_
 rintro e w1 ⟨rfl,hb⟩
 obtain ⟨hc,hf⟩ := bcell hb
 unfold lnV
 go_wp2
 exact bodyPost_ret (v := lnV r) (by simp [results,Tryz.results40,go_sem,hc,lnV]) rfl ⟨by rw [HP.out],below_four hb _ _ _ _⟩
set_option maxHeartbeats 1000000 in
theorem plain_5 (op : Int) (w : World) (c0 : 0 ≤ op) (c1 : ¬ op < 40) (c2 : ¬ op < 69) (c3 : ¬ op < 103) (c4 : ¬ op < 139) (c5 : ¬ op < 167) (c6 : op < 197) : Calls Tryz.prog 40 #[.int .i64 op] w fun e w' => e = .returned (lnV (plainL op)) ∧ Below w.heap.size w w' := by
 obtain ⟨r,hr⟩ : ∃ r,r = tab44.getD (op - 167).toNat ln0 := ⟨_,rfl⟩
 have HP := hid (show plainL op = r by unfold plainL; rw [if_neg c1,if_neg c2,if_neg c3,if_neg c4,if_neg c5,if_pos c6,hr])
 have H := fun W => hid (says44 (op - 167) W (by omega) (by omega))
 rw [show (op - 167).toNat = (op - 167).toNat by simp,← hr] at H
 clear hr
 go_enter Tryz.func40,Tryz.ntmps40
 go_wp2_with fail
 refine (H _).out.mono ?_
 rintro e w1 ⟨rfl,hb⟩
 obtain ⟨hc,hf⟩ := bcell hb
 unfold lnV
 go_wp2
 exact bodyPost_ret (v := lnV r) (by simp [results,Tryz.results40,go_sem,hc,lnV]) rfl ⟨by rw [HP.out],below_four hb _ _ _ _⟩
set_option maxHeartbeats 1000000 in
theorem plain_ref (op : Int) (w : World) (c0 : 0 ≤ op) (c1 : ¬ op < 40) (c2 : ¬ op < 69) (c3 : ¬ op < 103) (c4 : ¬ op < 139) (c5 : ¬ op < 167) (c6 : ¬ op < 197) (c7 : 208 ≤ op) (c8 : op < 211) : Calls Tryz.prog 40 #[.int .i64 op] w fun e w' => e = .returned (lnV (plainL op)) ∧ Below w.heap.size w w' := by
 obtain ⟨r,hr⟩ : ∃ r,r = tab45.getD (op - 208).toNat ln0 := ⟨_,rfl⟩
 have HP := hid (show plainL op = r by unfold plainL; rw [if_neg c1,if_neg c2,if_neg c3,if_neg c4,if_neg c5,if_neg c6,if_pos c7,hr])
 have H := fun W => hid (says45 (op - 208) W (by omega) (by omega))
 rw [← hr] at H
 clear hr
 go_enter Tryz.func40,Tryz.ntmps40
 go_wp2_with fail
 refine (H _).out.mono ?_
 rintro e w1 ⟨rfl,hb⟩
 obtain ⟨hc,hf⟩ := bcell hb
 unfold lnV
 go_wp2
 exact bodyPost_ret (v := lnV r) (by simp [results,Tryz.results40,go_sem,hc,lnV]) rfl ⟨by rw [HP.out],below_four hb _ _ _ _⟩
set_option maxHeartbeats 1000000 in
theorem plain_none (op : Int) (w : World) (c0 : 0 ≤ op) (c1 : ¬ op < 40) (c2 : ¬ op < 69) (c3 : ¬ op < 103) (c4 : ¬ op < 139) (c5 : ¬ op < 167) (c6 : ¬ op < 197) (c7 : ¬ 208 ≤ op) : Calls Tryz.prog 40 #[.int .i64 op] w fun e w' => e = .returned (lnV (plainL op)) ∧ Below w.heap.size w w' := by
 have HP := hid (show plainL op = ln0 by unfold plainL; rw [if_neg c1,if_neg c2,if_neg c3,if_neg c4,if_neg c5,if_neg c6,if_neg c7])
 go_enter Tryz.func40,Tryz.ntmps40
 go_wp2_with fail
 exact bodyPost_ret (v := lnV ln0) (by simp [results,Tryz.results40,go_sem,lnV,ln0]) rfl ⟨by rw [HP.out],(Below.refl _ _).alloc (Nat.le_refl _) _⟩
theorem plain_says (op : Int) (w : World) (h0 : 0 ≤ op) (h1 : op < 211) : Calls Tryz.prog 40 #[.int .i64 op] w fun e w' => e = .returned (lnV (plainL op)) ∧ Below w.heap.size w w' := by
 by_cases d0 : op < 40
 ·exact plain_0 op w h0 d0
 by_cases d1 : op < 69
 ·exact plain_1 op w h0 d0 d1
 by_cases d2 : op < 103
 ·exact plain_2 op w h0 d0 d1 d2
 by_cases d3 : op < 139
 ·exact plain_3 op w h0 d0 d1 d2 d3
 by_cases d4 : op < 167
 ·exact plain_4 op w h0 d0 d1 d2 d3 d4
 by_cases d5 : op < 197
 ·exact plain_5 op w h0 d0 d1 d2 d3 d4 d5
 by_cases e : 208 ≤ op
 ·exact plain_ref op w h0 d0 d1 d2 d3 d4 d5 e h1
 ·exact plain_none op w h0 d0 d1 d2 d3 d4 d5 e
set_option maxHeartbeats 1000000 in
theorem vec_0 (op : Int) (w : World) (c0 : 0 ≤ op) (c1 : op < 14) : Calls Tryz.prog 42 #[.int .i64 op] w fun e w' => e = .returned (lnV (vectorL op)) ∧ Below w.heap.size w w' := by
 obtain ⟨r,hr⟩ : ∃ r,r = tab46.getD (op - 0).toNat ln0 := ⟨_,rfl⟩
 have HP := hid (show vectorL op = r by unfold vectorL; rw [if_pos c1,hr])
 have H := fun W => hid (says46 op W (by omega) (by omega))
 rw [show op.toNat = (op - 0).toNat by simp,← hr] at H
 clear hr
 go_enter Tryz.func42,Tryz.ntmps42
 go_wp2_with fail
 refine (H _).out.mono ?_
 rintro e w1 ⟨rfl,hb⟩
 obtain ⟨hc,hf⟩ := bcell hb
 unfold lnV
 go_wp2
 exact bodyPost_ret (v := lnV r) (by simp [results,Tryz.results42,go_sem,hc,lnV]) rfl ⟨by rw [HP.out],below_four hb _ _ _ _⟩
set_option maxHeartbeats 1000000 in
theorem vec_1 (op : Int) (w : World) (c0 : 0 ≤ op) (c1 : ¬ op < 14) (c2 : op < 35) : Calls Tryz.prog 42 #[.int .i64 op] w fun e w' => e = .returned (lnV (vectorL op)) ∧ Below w.heap.size w w' := by
 obtain ⟨r,hr⟩ : ∃ r,r = tab47.getD (op - 14).toNat ln0 := ⟨_,rfl⟩
 have HP := hid (show vectorL op = r by unfold vectorL; rw [if_neg c1,if_pos c2,hr])
 have H := fun W => hid (says47 (op - 14) W (by omega) (by omega))
 rw [show (op - 14).toNat = (op - 14).toNat by simp,← hr] at H
 clear hr
 go_enter Tryz.func42,Tryz.ntmps42
 go_wp2_with fail
 refine (H _).out.mono ?_
 rintro e w1 ⟨rfl,hb⟩
 obtain ⟨hc,hf⟩ := bcell hb
 unfold lnV
 go_wp2
 exact bodyPost_ret (v := lnV r) (by simp [results,Tryz.results42,go_sem,hc,lnV]) rfl ⟨by rw [HP.out],below_four hb _ _ _ _⟩
set_option maxHeartbeats 1000000 in
theorem vec_2 (op : Int) (w : World) (c0 : 0 ≤ op) (c1 : ¬ op < 14) (c2 : ¬ op < 35) (c3 : op < 77) : Calls Tryz.prog 42 #[.int .i64 op] w fun e w' => e = .returned (lnV (vectorL op)) ∧ Below w.heap.size w w' := by
 obtain ⟨r,hr⟩ : ∃ r,r = tab48.getD (op - 35).toNat ln0 := ⟨_,rfl⟩
 have HP := hid (show vectorL op = r by unfold vectorL; rw [if_neg c1,if_neg c2,if_pos c3,hr])
 have H := fun W => hid (says48 (op - 35) W (by omega) (by omega))
 rw [show (op - 35).toNat = (op - 35).toNat by simp,← hr] at H
 clear hr
 go_enter Tryz.func42,Tryz.ntmps42
 go_wp2_with fail
 refine (H _).out.mono ?_
 rintro e w1 ⟨rfl,hb⟩
 obtain ⟨hc,hf⟩ := bcell hb
 unfold lnV
 go_wp2
 exact bodyPost_ret (v := lnV r) (by simp [results,Tryz.results42,go_sem,hc,lnV]) rfl ⟨by rw [HP.out],below_four hb _ _ _ _⟩
set_option maxHeartbeats 1000000 in
theorem vec_3 (op : Int) (w : World) (c0 : 0 ≤ op) (c1 : ¬ op < 14) (c2 : ¬ op < 35) (c3 : ¬ op < 77) (c4 : op < 96) : Calls Tryz.prog 42 #[.int .i64 op] w fun e w' => e = .returned (lnV (vectorL op)) ∧ Below w.heap.size w w' := by
 obtain ⟨r,hr⟩ : ∃ r,r = tab49.getD (op - 77).toNat ln0 := ⟨_,rfl⟩
 have HP := hid (show vectorL op = r by unfold vectorL; rw [if_neg c1,if_neg c2,if_neg c3,if_pos c4,hr])
 have H := fun W => hid (says49 (op - 77) W (by omega) (by omega))
 rw [show (op - 77).toNat = (op - 77).toNat by simp,← hr] at H
 clear hr
 go_enter Tryz.func42,Tryz.ntmps42
 go_wp2_with fail
 refine (H _).out.mono ?_
 rintro e w1 ⟨rfl,hb⟩
 obtain ⟨hc,hf⟩ := bcell hb
 unfold lnV
 go_wp2
 exact bodyPost_ret (v := lnV r) (by simp [results,Tryz.results42,go_sem,hc,lnV]) rfl ⟨by rw [HP.out],below_four hb _ _ _ _⟩
set_option maxHeartbeats 1000000 in
theorem vec_4 (op : Int) (w : World) (c0 : 0 ≤ op) (c1 : ¬ op < 14) (c2 : ¬ op < 35) (c3 : ¬ op < 77) (c4 : ¬ op < 96) (c5 : op < 128) : Calls Tryz.prog 42 #[.int .i64 op] w fun e w' => e = .returned (lnV (vectorL op)) ∧ Below w.heap.size w w' := by
 obtain ⟨r,hr⟩ : ∃ r,r = tab50.getD (op - 96).toNat ln0 := ⟨_,rfl⟩
 have HP := hid (show vectorL op = r by unfold vectorL; rw [if_neg c1,if_neg c2,if_neg c3,if_neg c4,if_pos c5,hr])
 have H := fun W => hid (says50 (op - 96) W (by omega) (by omega))
 rw [show (op - 96).toNat = (op - 96).toNat by simp,← hr] at H
 clear hr
 go_enter Tryz.func42,Tryz.ntmps42
 go_wp2_with fail
 refine (H _).out.mono ?_
 rintro e w1 ⟨rfl,hb⟩
 obtain ⟨hc,hf⟩ := bcell hb
 unfold lnV
 go_wp2
 exact bodyPost_ret (v := lnV r) (by simp [results,Tryz.results42,go_sem,hc,lnV]) rfl ⟨by rw [HP.out],below_four hb _ _ _ _⟩
set_option maxHeartbeats 1000000 in
theorem vec_5 (op : Int) (w : World) (c0 : 0 ≤ op) (c1 : ¬ op < 14) (c2 : ¬ op < 35) (c3 : ¬ op < 77) (c4 : ¬ op < 96) (c5 : ¬ op < 128) (c6 : op < 160) : Calls Tryz.prog 42 #[.int .i64 op] w fun e w' => e = .returned (lnV (vectorL op)) ∧ Below w.heap.size w w' := by
 obtain ⟨r,hr⟩ : ∃ r,r = tab51.getD (op - 128).toNat ln0 := ⟨_,rfl⟩
 have HP := hid (show vectorL op = r by unfold vectorL; rw [if_neg c1,if_neg c2,if_neg c3,if_neg c4,if_neg c5,if_pos c6,hr])
 have H := fun W => hid (says51 (op - 128) W (by omega) (by omega))
 rw [show (op - 128).toNat = (op - 128).toNat by simp,← hr] at H
 clear hr
 go_enter Tryz.func42,Tryz.ntmps42
 go_wp2_with fail
 refine (H _).out.mono ?_
 rintro e w1 ⟨rfl,hb⟩
 obtain ⟨hc,hf⟩ := bcell hb
 unfold lnV
 go_wp2
 exact bodyPost_ret (v := lnV r) (by simp [results,Tryz.results42,go_sem,hc,lnV]) rfl ⟨by rw [HP.out],below_four hb _ _ _ _⟩
set_option maxHeartbeats 1000000 in
theorem vec_6 (op : Int) (w : World) (c0 : 0 ≤ op) (c1 : ¬ op < 14) (c2 : ¬ op < 35) (c3 : ¬ op < 77) (c4 : ¬ op < 96) (c5 : ¬ op < 128) (c6 : ¬ op < 160) (c7 : op < 192) : Calls Tryz.prog 42 #[.int .i64 op] w fun e w' => e = .returned (lnV (vectorL op)) ∧ Below w.heap.size w w' := by
 obtain ⟨r,hr⟩ : ∃ r,r = tab52.getD (op - 160).toNat ln0 := ⟨_,rfl⟩
 have HP := hid (show vectorL op = r by unfold vectorL; rw [if_neg c1,if_neg c2,if_neg c3,if_neg c4,if_neg c5,if_neg c6,if_pos c7,hr])
 have H := fun W => hid (says52 (op - 160) W (by omega) (by omega))
 rw [show (op - 160).toNat = (op - 160).toNat by simp,← hr] at H
 clear hr
 go_enter Tryz.func42,Tryz.ntmps42
 go_wp2_with fail
 refine (H _).out.mono ?_
 rintro e w1 ⟨rfl,hb⟩
 obtain ⟨hc,hf⟩ := bcell hb
 unfold lnV
 go_wp2
 exact bodyPost_ret (v := lnV r) (by simp [results,Tryz.results42,go_sem,hc,lnV]) rfl ⟨by rw [HP.out],below_four hb _ _ _ _⟩
set_option maxHeartbeats 1000000 in
theorem vec_7 (op : Int) (w : World) (c0 : 0 ≤ op) (c1 : ¬ op < 14) (c2 : ¬ op < 35) (c3 : ¬ op < 77) (c4 : ¬ op < 96) (c5 : ¬ op < 128) (c6 : ¬ op < 160) (c7 : ¬ op < 192) (c8 : op < 224) : Calls Tryz.prog 42 #[.int .i64 op] w fun e w' => e = .returned (lnV (vectorL op)) ∧ Below w.heap.size w w' := by
 obtain ⟨r,hr⟩ : ∃ r,r = tab53.getD (op - 192).toNat ln0 := ⟨_,rfl⟩
 have HP := hid (show vectorL op = r by unfold vectorL; rw [if_neg c1,if_neg c2,if_neg c3,if_neg c4,if_neg c5,if_neg c6,if_neg c7,if_pos c8,hr])
 have H := fun W => hid (says53 (op - 192) W (by omega) (by omega))
 rw [show (op - 192).toNat = (op - 192).toNat by simp,← hr] at H
 clear hr
 go_enter Tryz.func42,Tryz.ntmps42
 go_wp2_with fail
 refine (H _).out.mono ?_
 rintro e w1 ⟨rfl,hb⟩
 obtain ⟨hc,hf⟩ := bcell hb
 unfold lnV
 go_wp2
 exact bodyPost_ret (v := lnV r) (by simp [results,Tryz.results42,go_sem,hc,lnV]) rfl ⟨by rw [HP.out],below_four hb _ _ _ _⟩
set_option maxHeartbeats 1000000 in
theorem vec_last (op : Int) (w : World) (c0 : 0 ≤ op) (c1 : ¬ op < 14) (c2 : ¬ op < 35) (c3 : ¬ op < 77) (c4 : ¬ op < 96) (c5 : ¬ op < 128) (c6 : ¬ op < 160) (c7 : ¬ op < 192) (c8 : ¬ op < 224) (c9 : op < 256) : Calls Tryz.prog 42 #[.int .i64 op] w fun e w' => e = .returned (lnV (vectorL op)) ∧ Below w.heap.size w w' := by
 obtain ⟨r,hr⟩ : ∃ r,r = tab54.getD (op - 224).toNat ln0 := ⟨_,rfl⟩
 have HP := hid (show vectorL op = r by unfold vectorL; rw [if_neg c1,if_neg c2,if_neg c3,if_neg c4,if_neg c5,if_neg c6,if_neg c7,if_neg c8,hr])
 have H := fun W => hid (says54 (op - 224) W (by omega) (by omega))
 rw [← hr] at H
 clear hr
 go_enter Tryz.func42,Tryz.ntmps42
 go_wp2_with fail
 refine (H _).out.mono ?_
 rintro e w1 ⟨rfl,hb⟩
 obtain ⟨hc,hf⟩ := bcell hb
 unfold lnV
 go_wp2
 exact bodyPost_ret (v := lnV r) (by simp [results,Tryz.results42,go_sem,hc,lnV]) rfl ⟨by rw [HP.out],below_four hb _ _ _ _⟩
theorem vector_says (op : Int) (w : World) (h0 : 0 ≤ op) (h1 : op < 256) : Calls Tryz.prog 42 #[.int .i64 op] w fun e w' => e = .returned (lnV (vectorL op)) ∧ Below w.heap.size w w' := by
 by_cases d0 : op < 14
 ·exact vec_0 op w h0 d0
 by_cases d1 : op < 35
 ·exact vec_1 op w h0 d0 d1
 by_cases d2 : op < 77
 ·exact vec_2 op w h0 d0 d1 d2
 by_cases d3 : op < 96
 ·exact vec_3 op w h0 d0 d1 d2 d3
 by_cases d4 : op < 128
 ·exact vec_4 op w h0 d0 d1 d2 d3 d4
 by_cases d5 : op < 160
 ·exact vec_5 op w h0 d0 d1 d2 d3 d4 d5
 by_cases d6 : op < 192
 ·exact vec_6 op w h0 d0 d1 d2 d3 d4 d5 d6
 by_cases d7 : op < 224
 ·exact vec_7 op w h0 d0 d1 d2 d3 d4 d5 d6 d7
 exact vec_last op w h0 d0 d1 d2 d3 d4 d5 d6 d7 h1
set_option maxHeartbeats 1000000 in
theorem line_neg (op : Int) (w : World) (c0 : op < 0) : Calls Tryz.prog 23 #[.int .i64 op] w fun e w' => e = .returned (lnV (lineL op)) ∧ Below w.heap.size w w' := by
 have HP := hid (show lineL op = ln0 by unfold lineL; rw [if_pos c0])
 go_enter Tryz.func23,Tryz.ntmps23
 go_wp2_with fail
 exact bodyPost_ret (v := lnV ln0) (by simp [results,Tryz.results23,go_sem,lnV,ln0]) rfl ⟨by rw [HP.out],(Below.refl _ _).alloc (Nat.le_refl _) _⟩
set_option maxHeartbeats 1000000 in
theorem line_plain (op : Int) (w : World) (c0 : ¬ op < 0) (c1 : op < 211) : Calls Tryz.prog 23 #[.int .i64 op] w fun e w' => e = .returned (lnV (lineL op)) ∧ Below w.heap.size w w' := by
 obtain ⟨r,hr⟩ : ∃ r,r = plainL op := ⟨_,rfl⟩
 have HP := hid (show lineL op = r by unfold lineL; rw [if_neg c0,if_pos c1,hr])
 have H := fun W => hid (plain_says op W (by omega) c1)
 rw [← hr] at H
 clear hr
 go_enter Tryz.func23,Tryz.ntmps23
 go_wp2_with fail
 refine (H _).out.mono ?_
 rintro e w1 ⟨rfl,hb⟩
 obtain ⟨hc,hf⟩ := bcell hb
 unfold lnV
 go_wp2
 exact bodyPost_ret (v := lnV r) (by simp [results,Tryz.results23,go_sem,hc,lnV]) rfl ⟨by rw [HP.out],below_four hb _ _ _ _⟩
set_option maxHeartbeats 1000000 in
theorem line_bulk (op : Int) (w : World) (c0 : ¬ op < 0) (c1 : ¬ op < 211) (c2 : 64512 ≤ op) (c3 : op < 64530) : Calls Tryz.prog 23 #[.int .i64 op] w fun e w' => e = .returned (lnV (lineL op)) ∧ Below w.heap.size w w' := by
 obtain ⟨r,hr⟩ : ∃ r,r = tab37.getD (op - 64512).toNat ln0 := ⟨_,rfl⟩
 have HP := hid (show lineL op = r by unfold lineL; rw [if_neg c0,if_neg c1,if_pos ⟨c2,c3⟩,hr])
 have H := fun W => hid (says37 (op - 64512) W (by omega) (by omega))
 rw [← hr] at H
 clear hr
 go_enter Tryz.func23,Tryz.ntmps23
 go_wp2_with fail
 refine (H _).out.mono ?_
 rintro e w1 ⟨rfl,hb⟩
 obtain ⟨hc,hf⟩ := bcell hb
 unfold lnV
 go_wp2
 exact bodyPost_ret (v := lnV r) (by simp [results,Tryz.results23,go_sem,hc,lnV]) rfl ⟨by rw [HP.out],below_four hb _ _ _ _⟩
set_option maxHeartbeats 1000000 in
theorem line_vec (op : Int) (w : World) (c0 : ¬ op < 0) (c1 : ¬ op < 211) (c2 : ¬ op < 64530) (c3 : 64768 ≤ op) (c4 : op < 65024) : Calls Tryz.prog 23 #[.int .i64 op] w fun e w' => e = .returned (lnV (lineL op)) ∧ Below w.heap.size w w' := by
 obtain ⟨r,hr⟩ : ∃ r,r = vectorL (op - 64768) := ⟨_,rfl⟩
 have HP := hid (show lineL op = r by unfold lineL; rw [if_neg c0,if_neg c1,if_neg (fun h => c2 h.2),if_pos ⟨c3,c4⟩,hr])
 have H := fun W => hid (vector_says (op - 64768) W (by omega) (by omega))
 rw [← hr] at H
 clear hr
 have q : 64512 ≤ op := by omega
 go_enter Tryz.func23,Tryz.ntmps23
 go_wp2_with fail
 refine (H _).out.mono ?_
 rintro e w1 ⟨rfl,hb⟩
 obtain ⟨hc,hf⟩ := bcell hb
 unfold lnV
 go_wp2
 exact bodyPost_ret (v := lnV r) (by simp [results,Tryz.results23,go_sem,hc,lnV]) rfl ⟨by rw [HP.out],below_four hb _ _ _ _⟩
set_option maxHeartbeats 1000000 in
theorem line_gap1 (op : Int) (w : World) (c0 : ¬ op < 0) (c1 : ¬ op < 211) (c2 : ¬ 64512 ≤ op) : Calls Tryz.prog 23 #[.int .i64 op] w fun e w' => e = .returned (lnV (lineL op)) ∧ Below w.heap.size w w' := by
 have HP := hid (show lineL op = ln0 by unfold lineL; rw [if_neg c0,if_neg c1,if_neg (fun h => c2 h.1),if_neg (fun h => c2 (by omega))])
 have q : ¬ 64768 ≤ op := by omega
 go_enter Tryz.func23,Tryz.ntmps23
 go_wp2_with fail
 exact bodyPost_ret (v := lnV ln0) (by simp [results,Tryz.results23,go_sem,lnV,ln0]) rfl ⟨by rw [HP.out],(Below.refl _ _).alloc (Nat.le_refl _) _⟩
set_option maxHeartbeats 1000000 in
theorem line_gap2 (op : Int) (w : World) (c0 : ¬ op < 0) (c1 : ¬ op < 211) (c2 : 64512 ≤ op) (c3 : ¬ op < 64530) (c4 : ¬ 64768 ≤ op) : Calls Tryz.prog 23 #[.int .i64 op] w fun e w' => e = .returned (lnV (lineL op)) ∧ Below w.heap.size w w' := by
 have HP := hid (show lineL op = ln0 by unfold lineL; rw [if_neg c0,if_neg c1,if_neg (fun h => c3 h.2),if_neg (fun h => c4 h.1)])
 go_enter Tryz.func23,Tryz.ntmps23
 go_wp2_with fail
 exact bodyPost_ret (v := lnV ln0) (by simp [results,Tryz.results23,go_sem,lnV,ln0]) rfl ⟨by rw [HP.out],(Below.refl _ _).alloc (Nat.le_refl _) _⟩
set_option maxHeartbeats 1000000 in
theorem line_gap3 (op : Int) (w : World) (c0 : ¬ op < 0) (c1 : ¬ op < 211) (c2 : 64512 ≤ op) (c3 : ¬ op < 64530) (c4 : 64768 ≤ op) (c5 : ¬ op < 65024) : Calls Tryz.prog 23 #[.int .i64 op] w fun e w' => e = .returned (lnV (lineL op)) ∧ Below w.heap.size w w' := by
 have HP := hid (show lineL op = ln0 by unfold lineL; rw [if_neg c0,if_neg c1,if_neg (fun h => c3 h.2),if_neg (fun h => c5 h.2)])
 go_enter Tryz.func23,Tryz.ntmps23
 go_wp2_with fail
 exact bodyPost_ret (v := lnV ln0) (by simp [results,Tryz.results23,go_sem,lnV,ln0]) rfl ⟨by rw [HP.out],(Below.refl _ _).alloc (Nat.le_refl _) _⟩
theorem line_says (op : Int) (w : World) : Calls Tryz.prog 23 #[.int .i64 op] w fun e w' => e = .returned (lnV (lineL op)) ∧ Below w.heap.size w w' := by
 by_cases c0 : op < 0
 ·exact line_neg op w c0
 by_cases c1 : op < 211
 ·exact line_plain op w c0 c1
 by_cases c2 : 64512 ≤ op
 ·by_cases c3 : op < 64530
  ·exact line_bulk op w c0 c1 c2 c3
  by_cases c4 : 64768 ≤ op
  ·by_cases c5 : op < 65024
   ·exact line_vec op w c0 c1 c3 c4 c5
   ·exact line_gap3 op w c0 c1 c2 c3 c4 c5
  ·exact line_gap2 op w c0 c1 c2 c3 c4
 ·exact line_gap1 op w c0 c1 c2
end Go.Proofs.YtbbmbhcbncenaaaGreatDoor
namespace Go.Proofs.YtbbmbhcbncenaaaGreatDoor
open Go.RowKit
def glob0 : List Int := [2,3,2,3,0,0,1,1,0,0,1,1,2,2,2,3,2,3,0,1,0,1,2]
def glob1 : List Int := [4,3,3,3,3,3,3,0,1,2,3,4]
def glob2 : List Int := [0,1,2,3,0,1,2,3,2,3]
def glob3 : List Int := [16,16,16,8,8,8,4,4,2,2,4,4,2,2]
def glob6 : List Int := [1,2,4,5,6,7,3]
def glob5 : List Int := [0,0,0,0,0,0,127,0,0,126,0,0,125,0,0,124,0,0,123,0,0,112,0,0,127,127,0,127,126,0,127,125,0,127,124,0,127,123,0,126,126,0,125,125,0,124,124,0,123,127,0,123,126,0,123,125,0,123,124,0,123,123,0,127,127,127,123,123,123]
structure Glob (w : World) : Prop where
 size : 6 ≤ w.heap.size
 c0 : ∀ j,j < 23 → w.cell? ⟨3,j,none⟩ = some (.int .i64 (glob0.getD j 0))
 c1 : ∀ j,j < 12 → w.cell? ⟨4,j,none⟩ = some (.int .i64 (glob1.getD j 0))
 c2 : ∀ j,j < 10 → w.cell? ⟨5,j,none⟩ = some (.int .i64 (glob2.getD j 0))
 c3 : ∀ j,j < 14 → w.cell? ⟨2,j,none⟩ = some (.int .i64 (glob3.getD j 0))
 c5 : ∀ j,j < 69 → w.cell? ⟨0,j,none⟩ = some (.int .i64 (glob5.getD j 0))
theorem Glob.below {B : Nat} {w w' : World} (h : Glob w) (hb : Below B w w') (hB : 6 ≤ B) : Glob w' where
 size := Nat.le_trans h.size hb.size
 c0 j hj := by rw [hb.cell (p := ⟨3,j,none⟩) (show 3 < B by omega),h.c0 j hj]
 c1 j hj := by rw [hb.cell (p := ⟨4,j,none⟩) (show 4 < B by omega),h.c1 j hj]
 c2 j hj := by rw [hb.cell (p := ⟨5,j,none⟩) (show 5 < B by omega),h.c2 j hj]
 c3 j hj := by rw [hb.cell (p := ⟨2,j,none⟩) (show 2 < B by omega),h.c3 j hj]
 c5 j hj := by rw [hb.cell (p := ⟨0,j,none⟩) (show 0 < B by omega),h.c5 j hj]
theorem Glob.next {w w' : World} (h : Glob w) (hb : Below w.heap.size w w') : Glob w' := h.below hb h.size
def rangeOps : List Int := (List.range 211).map (fun k : Nat => (k : Int)) ++ (List.range 18).map (fun k : Nat => 64512 + (k : Int)) ++ (List.range 256).map (fun k : Nat => 64768 + (k : Int))
theorem mem_rangeOps (op : Int) : op ∈ rangeOps ↔ (0 ≤ op ∧ op < 211) ∨ (64512 ≤ op ∧ op < 64530) ∨ (64768 ≤ op ∧ op < 65024) := by
 unfold rangeOps
 simp only [List.mem_append,List.mem_map,List.mem_range]
 constructor
 ·rintro ((⟨k,hk,rfl⟩ | ⟨k,hk,rfl⟩) | ⟨k,hk,rfl⟩) <;> omega
 ·rintro (⟨h0,h1⟩ | ⟨h0,h1⟩ | ⟨h0,h1⟩)
  ·exact .inl (.inl ⟨op.toNat,by omega,by omega⟩)
  ·exact .inl (.inr ⟨(op - 64512).toNat,by omega,by omega⟩)
  ·exact .inr ⟨(op - 64768).toNat,by omega,by omega⟩
theorem lineL_out (op : Int) (h : ¬ op ∈ rangeOps) : lineL op = ln0 := by
 rw [mem_rangeOps] at h
 unfold lineL
 by_cases c0 : op < 0
 ·rw [if_pos c0]
 rw [if_neg c0,if_neg (by omega),if_neg (by omega),if_neg (by omega)]
def okLn (r : Ln) : Bool := decide (0 ≤ r.2.1) && decide (r.2.1 ≤ 26) && decide (0 ≤ r.2.2.1) && decide (r.2.2.1 < 23) && decide (0 ≤ r.2.2.2) && decide (r.2.2.2 < 23)
theorem all_ok : (rangeOps.all fun op => okLn (lineL op)) = true := by kernel_rfl
theorem line_ok (op : Int) : 0 ≤ (lineL op).2.1 ∧ (lineL op).2.1 ≤ 26 ∧ 0 ≤ (lineL op).2.2.1 ∧ (lineL op).2.2.1 < 23 ∧ 0 ≤ (lineL op).2.2.2 ∧ (lineL op).2.2.2 < 23 := by
 have h : okLn (lineL op) = true := by
  by_cases hin : op ∈ rangeOps
  ·exact List.all_eq_true.1 all_ok op hin
  ·rw [lineL_out op hin]; rfl
 unfold okLn at h
 simp only [Bool.and_eq_true,decide_eq_true_eq] at h
 omega
def knB (r : Ln) : Bool := !r.1.toList.isEmpty
def fxB (r : Ln) : Bool := r.2.2.1 != 0
theorem fixed_says (r : Ln) (w : World) : Calls Tryz.prog 32 #[lnV r] w fun e w' => e = .returned (.bool (fxB r)) ∧ Below w.heap.size w w' := by
 obtain ⟨s,a,b,c⟩ := r
 show Calls Tryz.prog 32 #[.agg #[.string s,.int .u8 a,.int .u8 b,.int .u8 c]] w fun e w' => e = .returned (.bool (b != 0)) ∧ Below w.heap.size w w'
 go_enter Tryz.func32,Tryz.ntmps32
 go_wp2
 go_ret
 exact ⟨rfl,(Below.refl _ _).alloc (Nat.le_refl _) _⟩
end Go.Proofs.YtbbmbhcbncenaaaGreatDoor
namespace Go.Proofs.YtbbmbhcbncenaaaGreatDoor
open Go.RowKit
theorem info3 : (Tryz.prog.info? 3).map (fun i => (i.zero,i.size,i.bytes)) = some (some (.int .i64 0),1,8) := by kernel_rfl
def ic (l : List Int) : List Value := l.map (Value.int .i64)
theorem append_int {w : World} {ops : Array Oper} {rest : List Oper} {o : Oper} {a : Act} {Q : Exit → Act → World → Prop} (hgd : o.guard = none) (s x : Operand)
  (ho : o.op = .call { callee := .builtin .append,args := #[s,x],argTypes := #[28,28] }) (base : Nat) (v : Value) (n : Nat) (xs : List Value) (q : Int)
  (hown : w.ownsRow base 3 1 v n xs) (hbase : base ≤ w.heap.size) (hn : n + 1 ≤ 1000000) (hs : a.eval s = v) (hx : a.eval x = .slice (some ⟨w.heap.size,0,none⟩) 1 1)
  (h : ∀ v' w',w'.ownsRow base 3 1 v' (n + 1) (xs ++ [.int .i64 q]) → Below base w w' → base ≤ w'.heap.size → wpList Tryz.prog ops Q rest (a.put o.dst v') w') :
  wpList Tryz.prog ops Q (o :: rest) a (w.alloc (.cells #[.int .i64 q] 3)) := by
 obtain ⟨i0,hi,hz0,hz1,hz2⟩ := info_parts info3
 have hb1 := (Below.refl base w).alloc hbase (.cells #[.int .i64 q] 3)
 refine wpList_append_own _ hgd s x 28 ho base 3 i0 (.int .i64 0) 1 8 Tryz.underlying28 hi hz0 hz1 hz2 rfl (by decide) v n xs hs (hown.alloc _) ⟨w.heap.size,0,none⟩ 1 1 [.int .i64 q] hx rfl (cell_one_new _ _ _)
  (fun u hu => by simp at hu; subst hu; rfl) (by unfold maxLen; omega) (by omega) (by simp; omega) ?_
 intro v' w1 hown' hgrow _
 exact h v' w1 hown' (hb1.grown hgrow (by simp; omega) (fun k hk => (hown.lt k hk).1)) (by have := hgrow.size; simp at this; omega)
theorem own_below {B : Nat} {w w' : World} {base : Nat} {e : TypeId} {s n : Nat} {v : Value} {xs : List Value} (h : w.ownsRow base e s v n xs) (hb : Below B w w') (hB : w.heap.size ≤ B) : w'.ownsRow base e s v n xs := by
 refine ⟨h.1,?_⟩
 rcases h.2 with h2 | ⟨g,cap,cur,e1,e2,e3,e4⟩
 ·exact .inl h2
 ·refine .inr ⟨g,cap,cur,e1,e2,?_,e4⟩
  have hlt : g < w.heap.size := (Array.getElem?_eq_some_iff.1 e3).1
  rw [hb.block g (by omega),e3]
theorem own_mono {w : World} {base base' : Nat} {e : TypeId} {s n : Nat} {v : Value} {xs : List Value} (h : w.ownsRow base e s v n xs) (hb : base' ≤ base) : w.ownsRow base' e s v n xs := by
 refine ⟨h.1,?_⟩
 rcases h.2 with h2 | ⟨g,cap,cur,e1,e2,e3⟩
 ·exact .inl h2
 ·exact .inr ⟨g,cap,cur,e1,by omega,e3⟩
end Go.Proofs.YtbbmbhcbncenaaaGreatDoor
namespace Go.Proofs.YtbbmbhcbncenaaaGreatDoor
open Go.RowKit
def typesL (t : Nat) : List Int := ((glob5.drop (3 * t)).take 3).takeWhile fun z => z != 0
def typesOk (t : Nat) : Bool := decide ((typesL t).length ≤ 3) && ((List.range (typesL t).length).all fun k => (glob5.getD (t * 3 + k) 0 == (typesL t).getD k 0) && ((typesL t).getD k 0 != 0)) &&
 (decide ((typesL t).length = 3) || glob5.getD (t * 3 + (typesL t).length) 0 == 0)
theorem types_all : ((List.range 23).all typesOk) = true := by decide +kernel
theorem types_fact (t : Nat) (h : t < 23) : (typesL t).length ≤ 3 ∧ (∀ k,k < (typesL t).length → glob5.getD (t * 3 + k) 0 = (typesL t).getD k 0 ∧ (typesL t).getD k 0 ≠ 0) ∧ ((typesL t).length = 3 ∨ glob5.getD (t * 3 + (typesL t).length) 0 = 0) := by
 have := List.all_eq_true.1 types_all t (by simpa using h)
 unfold typesOk at this
 simp only [Bool.and_eq_true,Bool.or_eq_true,decide_eq_true_eq,List.all_eq_true,List.mem_range,beq_iff_eq,bne_iff_ne] at this
 exact ⟨this.1.1,this.1.2,this.2⟩
def TyPost (w : World) (l : List Int) (e : Ending) (w' : World) : Prop := ∃ v,e = .returned v ∧ w'.ownsRow w.heap.size 3 1 v l.length (ic l) ∧ Below w.heap.size w w'
def TyRel (w : World) (l : List Int) (k : Nat) (v : Value) (wr : World) : Prop := wr.ownsRow w.heap.size 3 1 v k (ic (l.take k)) ∧ Below w.heap.size w wr
set_option maxHeartbeats 2000000 in
theorem types_says (t : Nat) (ht : t < 23) (w : World) (hg : Glob w) : Calls Tryz.prog 33 #[.int .u8 t] w (TyPost w (typesL t)) := by
 obtain ⟨hl,hat,hend⟩ := types_fact t ht
 obtain ⟨l,hle⟩ : ∃ l,l = typesL t := ⟨_,rfl⟩
 rw [← hle] at hl hat hend ⊢
 clear hle
 have HG := hid hg
 have HA := hid hat
 have HE := hid hend
 clear hg hat hend
 go_enter Tryz.func33,Tryz.ntmps33
 go_wp2
 go_loopw [4,3] (fun vi vo wr => ∃ k : Nat,k ≤ l.length ∧ vi = .int .i64 k ∧ TyRel w l k vo wr) (fun vi _ _ => 3 - (intOf vi).toNat)
 case atStart => exact ⟨0,by omega,rfl,World.ownsRow_nil w w.heap.size 3 1,Below.refl _ _⟩
 case round =>
  obtain ⟨k,hk,rfl,hrel⟩ := hrel
  have HR := hid hrel
  have HW := hid (HG.out.below hrel.2 HG.out.size)
  have hsz := hrel.2.size
  clear hrel
  by_cases hlt : k < l.length
  ·have hk3 : k < 3 := by omega
   obtain ⟨z,hz⟩ : ∃ z,z = l.getD k 0 := ⟨_,rfl⟩
   have hc : wr.cell? ⟨0,t * 3 + k,none⟩ = some (.int .i64 z) := by rw [HW.out.c5 (t * 3 + k) (by omega),(HA.out k hlt).1,hz]
   have hz0 : (z != 0) = true := by have := (HA.out k hlt).2; rw [← hz] at this; simpa using this
   have HZ := hid hz
   clear hz
   have HS := hid (show ic (l.take k) ++ [.int .i64 z] = ic (l.take (k + 1)) by
    rw [List.take_add_one,List.getElem?_eq_getElem hlt]
    have : z = l[k] := by rw [HZ.out]; simp [List.getD_eq_getElem?_getD,hlt]
    simp only [ic,List.map_append,Option.toList,List.map_cons,List.map_nil,this])
   go_wp2_with (at_builtin; refine append_int rfl _ _ rfl w.heap.size _ _ _ z HR.out.1 hsz (by omega) rfl rfl ?_; intro v' w3 hown' hnx3 hsz3)
   go_roundw
   case rel => exact ⟨k + 1,by omega,by go_num,by rw [← HS.out]; exact hown',HR.out.2.trans hnx3⟩
   case measure => simp [intOf]; omega
  ·obtain rfl : k = l.length := by omega
   have hfin : wr.ownsRow w.heap.size 3 1 u3 l.length (ic l) := by have := HR.out.1; rwa [List.take_of_length_le (Nat.le_refl _)] at this
   have HF := hid hfin
   clear hfin
   by_cases h3 : l.length < 3
   ·have hc : wr.cell? ⟨0,t * 3 + l.length,none⟩ = some (.int .i64 0) := by
     rw [HW.out.c5 (t * 3 + l.length) (by omega)]
     rcases HE.out with h | h
     ·omega
     ·rw [h]
    go_wp2
    go_ret
    exact ⟨_,rfl,HF.out,HR.out.2⟩
   ·go_wp2
    go_ret
    exact ⟨_,rfl,HF.out,HR.out.2⟩
end Go.Proofs.YtbbmbhcbncenaaaGreatDoor
namespace Go.Proofs.YtbbmbhcbncenaaaGreatDoor
open Go.RowKit
theorem sign_no (op : Int) (w : World) (hf : fxB (lineL op) = false) : Calls Tryz.prog 18 #[.int .i64 op] w fun e w' => e = .returned (.tuple #[.slice none 0 0,.slice none 0 0,.bool false]) ∧ Below w.heap.size w w' := by
 obtain ⟨⟨s,a,b,c⟩,hr⟩ : ∃ r,r = lineL op := ⟨_,rfl⟩
 have H := fun W => hid (line_says op W)
 rw [← hr] at H hf
 have HK := fun W => hid (fixed_says (s,a,b,c) W)
 rw [hf] at HK
 clear hr hf
 go_enter Tryz.func18,Tryz.ntmps18
 go_wp2_with (first | (go_at_call 23; refine (H _).out.mono ?_; rintro e w1 ⟨rfl,hb⟩; unfold lnV) | (go_at_call 32; refine (HK _).out.mono ?_; rintro e w2 ⟨rfl,hb2⟩))
 go_ret3
 exact ⟨rfl,(hb.trans ((Below.refl _ _).alloc hb.size _)).trans (hb2.mono (by simp; have := hb.size; omega))⟩
theorem Glob.drew {w : World} (h : Glob w) : Glob w.drew := h.below ((Below.refl 6 w).drew) (Nat.le_refl _)
theorem _root_.Go.RowKit.Below.drew0 {B : Nat} {w w' : World} (h : Below B w.drew w') : Below B w w' := ⟨h.os,h.tape,h.output,h.size,h.block⟩
def SignPost (w : World) (la lb : List Int) (e : Ending) (w' : World) : Prop :=
 ∃ v1 v2 B,e = .returned (.tuple #[v1,v2,.bool true]) ∧ w'.ownsRow w.heap.size 3 1 v1 la.length (ic la) ∧ w'.ownsRow B 3 1 v2 lb.length (ic lb) ∧ w.heap.size ≤ B ∧ (∀ k,v1.ownBlock = some k → k < B) ∧ Below w.heap.size w w'
set_option maxHeartbeats 4000000 in
theorem sign_yes (op : Int) (w : World) (hf : fxB (lineL op) = true) (hg : Glob w) : Calls Tryz.prog 18 #[.int .i64 op] w (SignPost w (typesL (lineL op).2.2.1.toNat) (typesL (lineL op).2.2.2.toNat)) := by
 obtain ⟨_,_,hb0,hb1,hc0,hc1⟩ := line_ok op
 obtain ⟨⟨s,a,b,c⟩,hr⟩ : ∃ r,r = lineL op := ⟨_,rfl⟩
 have H := fun W => hid (line_says op W)
 rw [← hr] at H hf hb0 hb1 hc0 hc1 ⊢
 have HK := fun W => hid (fixed_says (s,a,b,c) W)
 rw [hf] at HK
 clear hr hf
 dsimp only at hb0 hb1 hc0 hc1 ⊢
 obtain ⟨b,rfl⟩ : ∃ n : Nat,b = n := ⟨b.toNat,by omega⟩
 obtain ⟨c,rfl⟩ : ∃ n : Nat,c = n := ⟨c.toNat,by omega⟩
 have HB := fun W (hW : Glob W) => hid (types_says b (by omega) W hW)
 have HC := fun W (hW : Glob W) => hid (types_says c (by omega) W hW)
 rw [Int.toNat_natCast,Int.toNat_natCast]
 obtain ⟨la,hla⟩ : ∃ l,l = typesL b := ⟨_,rfl⟩
 obtain ⟨lb,hlb⟩ : ∃ l,l = typesL c := ⟨_,rfl⟩
 rw [← hla] at HB ⊢
 rw [← hlb] at HC ⊢
 have HG := hid hg
 clear hg hla hlb
 go_enter Tryz.func18,Tryz.ntmps18
 go_wp2_with (first | (go_at_call 23; refine (H _).out.mono ?_; rintro e w1 ⟨rfl,hb⟩; unfold lnV) | (go_at_call 32; refine (HK _).out.mono ?_; rintro e w2 ⟨rfl,hb2⟩))
 obtain ⟨hc,hf⟩ := bcell hb2
 have hb3 : Below w.heap.size w w2 := (hb.trans ((Below.refl _ _).alloc hb.size _)).trans (hb2.mono (by simp; have := hb.size; omega))
 have HW2 := hid (HG.out.next hb3)
 have HB3 := hid hb3
 have hk1 : w2.cell? ⟨w1.heap.size,2,none⟩ = some (.int .u8 b) := by rw [hc _ _ (by simp)]; simp
 have hk2 : w2.cell? ⟨w1.heap.size,3,none⟩ = some (.int .u8 c) := by rw [hc _ _ (by simp)]; simp
 have hlt : w1.heap.size < w2.heap.size := by have := hb2.size; simp at this; omega
 clear hc hf hb3 hb2 hb
 go_region_with (first
  | (go_at_call 33; ((with_reducible refine (HB _ (by first | exact HW2.out | exact HW2.out.drew)).out.mono ?_); rintro e w3 ⟨v1,rfl,hown1,hb4⟩; obtain ⟨hc4,hf4⟩ := bcell hb4; have hk3 : w3.cell? ⟨w1.heap.size,3,none⟩ = some (.int .u8 c) := (hc4 _ _ (by first | exact hlt | simpa using hlt)).trans (by first | exact hk2 | simpa using hk2); have HO1 := hid hown1; have HB4 := hid hb4; clear hown1 hb4 hf4 hc4))
  | (go_at_call 33; ((with_reducible refine (HC _ (by first | exact HW2.out.next HB4.out | exact HW2.out.drew.next HB4.out)).out.mono ?_); rintro e w4 ⟨v2,rfl,hown2,hb5⟩; have HO2 := hid hown2; have HB5 := hid hb5; clear hown2 hb5)))
 all_goals
  go_wp2
  refine bodyPost_ret (v := .tuple #[v1,v2,.bool true]) (by kernel_rfl) (by rfl) ?_
  refine ⟨v1,v2,w3.heap.size,rfl,own_mono (own_below HO1.out HB5.out (Nat.le_refl _)) HB3.out.size,HO2.out,Nat.le_trans HB3.out.size HB4.out.size,fun k hk => (HO1.out.lt k hk).2,?_⟩
  exact (HB3.out.trans ((HB4.out.mono HB3.out.size).drew0)).trans (HB5.out.mono (Nat.le_trans HB3.out.size HB4.out.size))
end Go.Proofs.YtbbmbhcbncenaaaGreatDoor
namespace Go.Proofs.YtbbmbhcbncenaaaGreatDoor
open Go.RowKit
def str (l : List UInt8) : ByteArray := ⟨l.toArray⟩
theorem str_list (l : List UInt8) : (str l).toList = l := by rw [ByteArray.toList_eq]; rfl
theorem str_size (l : List UInt8) : (str l).size = l.length := by simp [str,ByteArray.size]
theorem str_get (l : List UInt8) (n : Nat) (h : n < l.length) (h' : n < (str l).size) : (str l)[n]'h' = l[n] := by
 show (l.toArray)[n]'(by simpa using h) = l[n]
 rfl
theorem str_snoc (x l : List UInt8) (n : Nat) (h : n < l.length) : str x ++ (str l).extract n (n + 1) = str (x ++ [l[n]]) := by
 apply ByteArray.ext
 simp only [ByteArray.data_append,ByteArray.data_extract,str]
 rw [List.extract_toArray,List.append_toArray]
 congr 2
 rw [List.extract_eq_take_drop,Nat.add_sub_cancel_left,List.drop_eq_getElem_cons h]
 rfl
def sc (l : List (List UInt8)) : List Value := l.map fun x => Value.string (str x)
theorem info9 : (Tryz.prog.info? 9).map (fun i => (i.zero,i.size,i.bytes)) = some (some (.string ⟨#[]⟩),1,16) := by kernel_rfl
theorem append_str {w : World} {ops : Array Oper} {rest : List Oper} {o : Oper} {a : Act} {Q : Exit → Act → World → Prop} (hgd : o.guard = none) (s x : Operand)
  (ho : o.op = .call { callee := .builtin .append,args := #[s,x],argTypes := #[39,39] }) (base : Nat) (v : Value) (n : Nat) (xs : List Value) (q : ByteArray)
  (hown : w.ownsRow base 9 1 v n xs) (hbase : base ≤ w.heap.size) (hn : n + 1 ≤ 1000000) (hs : a.eval s = v) (hx : a.eval x = .slice (some ⟨w.heap.size,0,none⟩) 1 1)
  (h : ∀ v' w',w'.ownsRow base 9 1 v' (n + 1) (xs ++ [.string q]) → Below base w w' → base ≤ w'.heap.size → wpList Tryz.prog ops Q rest (a.put o.dst v') w') :
  wpList Tryz.prog ops Q (o :: rest) a (w.alloc (.cells #[.string q] 9)) := by
 obtain ⟨i0,hi,hz0,hz1,hz2⟩ := info_parts info9
 have hb1 := (Below.refl base w).alloc hbase (.cells #[.string q] 9)
 refine wpList_append_own _ hgd s x 39 ho base 9 i0 (.string ⟨#[]⟩) 1 16 Tryz.underlying39 hi hz0 hz1 hz2 rfl (by decide) v n xs hs (hown.alloc _) ⟨w.heap.size,0,none⟩ 1 1 [.string q] hx rfl (cell_one_new _ _ _)
  (fun u hu => by simp at hu; subst hu; rfl) (by unfold maxLen; omega) (by omega) (by simp; omega) ?_
 intro v' w1 hown' hgrow _
 exact h v' w1 hown' (hb1.grown hgrow (by simp; omega) (fun k hk => (hown.lt k hk).1)) (by have := hgrow.size; simp at this; omega)
def stepW (p : List (List UInt8) × List UInt8) (c : UInt8) : List (List UInt8) × List UInt8 :=
 match p with
 | (o,x) => if c = 32 then (if x = [] then (o,[]) else (o ++ [x],[])) else (o,x ++ [c])
def wst (l : List UInt8) (n : Nat) : List (List UInt8) × List UInt8 := ((l ++ [32]).take n).foldl stepW ([],[])
def wordsL (l : List UInt8) : List (List UInt8) := (wst l (l.length + 1)).1
theorem wst_succ (l : List UInt8) (n : Nat) (c : UInt8) (h : (l ++ [32])[n]? = some c) : wst l (n + 1) = stepW (wst l n) c := by
 unfold wst
 rw [List.take_add_one,h,List.foldl_append]
 rfl
theorem wst_len (l : List UInt8) (n : Nat) : (wst l n).1.length + (wst l n).2.length ≤ n := by
 induction n with
 | zero => simp [wst]
 | succ n ih =>
  cases h : (l ++ [32])[n]? with
  | none =>
   have e : wst l (n + 1) = wst l n := by unfold wst; rw [List.take_add_one,h]; simp
   rw [e]; omega
  | some c =>
   rw [wst_succ l n c h]
   generalize wst l n = p at ih
   obtain ⟨o,x⟩ := p
   simp only [stepW] at ih ⊢
   split
   ·split
    ·rename_i hx; subst hx; simp at ih ⊢; omega
    ·rename_i hx
     have : 0 < x.length := List.length_pos_iff.2 hx
     simp; omega
   ·simp; omega
end Go.Proofs.YtbbmbhcbncenaaaGreatDoor
namespace Go.Proofs.YtbbmbhcbncenaaaGreatDoor
open Go.RowKit
theorem tab_front {T : TypeId} {oa ob oc os : Oper} {rest : Code} {Q : Exit → Act → World → Prop} {i : Value} {w : World} {parts : Array (Nat × Operand)} {cs zs : Array Value}
  (ha : oa.op = .assign (.const (.string ⟨#[]⟩)) ∧ oa.dst = some 2 ∧ oa.guard = none)
  (hb : ob.op = .build T parts ∧ ob.dst = some 4 ∧ ob.guard = none) (hbuilt : ∀ a : Act,Tryz.prog.built T (parts.map fun (i,x) => (i,a.eval x)).toList = some cs)
  (hc : oc.op = .alloc T ∧ oc.dst = some 3 ∧ oc.guard = none) (halloc : ∀ (a : Act) (W : World),(execOp a.eval oc).run Tryz.prog W = .ok (.value (.pointer (some ⟨W.heap.size,0,none⟩))) (W.alloc (.cells zs T)))
  (hs : os.op = .store T (.tmp 3) (.tmp 4) ∧ os.dst = none ∧ os.guard = none)
  (hzs : zs.size = cs.size) (hi : (Tryz.prog.info? T).map (·.size) = some cs.size) (h1 : cs.all (·.oneCell') = true)
  (h : ∀ v4 W,(∀ k v,cs[k]? = some v → W.cell? ⟨w.heap.size,k,none⟩ = some v) → Below w.heap.size w W →
   Code.wp Tryz.prog rest Q { tmps := #[i,undef,.string ⟨#[]⟩,.pointer (some ⟨w.heap.size,0,none⟩),v4,undef,undef,undef],defers := [] } W) :
  Code.wp Tryz.prog (.seq (.region 0 #[oa] false) (.seq (.region 1 #[ob,oc,os] false) rest)) Q { tmps := #[i,undef,undef,undef,undef,undef,undef,undef],defers := [] } w := by
 obtain ⟨ha1,ha2,ha3⟩ := ha
 obtain ⟨hb1,hb2,hb3⟩ := hb
 obtain ⟨hc1,hc2,hc3⟩ := hc
 obtain ⟨hs1,hs2,hs3⟩ := hs
 refine wp_seq (wp_region_lit (l := [oa]) ?_)
 refine run_to ha3 (some 2) ha2 (.string ⟨#[]⟩) w (by unfold execOp; rw [ha1]; rfl) ?_
 show Exit.then _ _ .normal _ _
 show Code.wp _ _ _ _ _
 refine wp_seq (wp_region_lit (l := [ob,oc,os]) ?_)
 refine wpList_buildTo hb3 T parts hb1 (some 4) hb2 cs (hbuilt _) ?_
 refine run_to hc3 (some 3) hc2 (.pointer (some ⟨w.heap.size,0,none⟩)) (w.alloc (.cells zs T)) (halloc _ _) ?_
 have hheap : (w.alloc (.cells zs T)).heap[w.heap.size]? = some (.cells zs T (0,0)) := by
  show (w.heap.push _)[w.heap.size]? = _
  simp
 refine wpList_store_rowTo hs3 T (.tmp 3) (.tmp 4) hs1 hs2 w.heap.size cs (by rfl) (by rfl) T zs hheap hi hzs h1 ?_
 show Exit.then _ _ .normal _ _
 show Code.wp _ _ _ _ _
 refine h (.agg cs) _ ?_ ?_
 ·intro k v hk
  rw [World.cell?,setRow_heap _ _ _ _ _ _ hheap]
  simpa using hk
 ·exact ⟨rfl,rfl,rfl,by simp,fun k hk => by rw [setRow_other _ _ _ _ (by omega)]; exact Below.heap_alloc _ _ _ hk⟩
def buildOf (f : Func) : Oper := match f.body with
 | some (.seq _ (.seq (.region _ ops _) _)) => ops.getD 0 default
 | _ => default
def partsOf (o : Oper) : Array (Nat × Operand) := match o.op with
 | .build _ parts => parts
 | _ => #[]
def strOf (v : Value) : List UInt8 := match v with
 | .string s => s.data.toList
 | _ => []
def refTab (n : Nat) (f : Func) : List (List UInt8) := (List.range n).map fun k => match (partsOf (buildOf f)).toList.find? fun x => x.1 == k with
 | some (_,.const v) => strOf v
 | _ => []
noncomputable def tabOne : List (List UInt8) := refTab 211 Tryz.f9
noncomputable def tabTwo : List (List UInt8) := refTab 18 Tryz.f10
noncomputable def tabThree : List (List UInt8) := refTab 256 Tryz.f11
theorem one_len : tabOne.length = 211 := by kernel_rfl
theorem two_len : tabTwo.length = 18 := by kernel_rfl
theorem three_len : tabThree.length = 256 := by kernel_rfl
theorem sc_at {l : List (List UInt8)} {k : Nat} (h : k < l.length) : (sc l).toArray[k]? = some (.string (str (l.getD k []))) := by
 simp [sc,List.getElem?_eq_getElem h,List.getD_eq_getElem?_getD]
def ops0 (f : Func) : Oper := match f.body with
 | some (.seq (.region _ ops _) _) => ops.getD 0 default
 | _ => default
def ops1 (f : Func) (k : Nat) : Oper := match f.body with
 | some (.seq _ (.seq (.region _ ops _) _)) => ops.getD k default
 | _ => default
theorem two_says (k : Nat) (hk : k < 18) (w : World) : Calls Tryz.prog 10 #[.int .i64 k] w fun e w' => e = .returned (.string (str (tabTwo.getD k []))) ∧ Below w.heap.size w w' := by
 refine calls_of_wp (c := .seq (.region 0 #[ops0 Tryz.f10] false) (.seq (.region 1 #[ops1 Tryz.f10 0, ops1 Tryz.f10 1, ops1 Tryz.f10 2] false) (.seq (.region 2 #[{ dst := some 5, op := Op.move (Operand.tmp 0), type := 3, pos := "table.go:45", after := #[], guard := none }, { dst := some 6, op := Op.indexAddr 53 (Operand.tmp 3) (Operand.tmp 5), type := 0, pos := "table.go:45", after := #[{ on := 0, ground := Ground.data }], guard := none }, { dst := some 7, op := Op.load 9 (Operand.tmp 6), type := 9, pos := "table.go:45", after := #[{ on := 1, ground := Ground.data }], guard := none }, { dst := some 2, op := Op.assign (Operand.tmp 7), type := 9, pos := "table.go:45", after := #[{ on := 2, ground := Ground.data }, { on := 0, ground := Ground.phase }, { on := 1, ground := Ground.phase }, { on := 2, ground := Ground.phase }], guard := none }] false) .ret))) Tryz.func10 (by kernel_rfl) ?_
 show Code.wp _ _ _ { tmps := #[.int .i64 k,undef,undef,undef,undef,undef,undef,undef],defers := [] } _
 refine tab_front (T := 53) (parts := partsOf (buildOf Tryz.f10)) (cs := (sc tabTwo).toArray) (zs := Array.replicate 18 (.string ⟨#[]⟩)) ⟨by kernel_rfl,by kernel_rfl,by kernel_rfl⟩ ⟨by kernel_rfl,by kernel_rfl,by kernel_rfl⟩ (fun _ => by kernel_rfl) ⟨by kernel_rfl,by kernel_rfl,by kernel_rfl⟩ (fun _ _ => by kernel_rfl) ⟨by kernel_rfl,by kernel_rfl,by kernel_rfl⟩ (by kernel_rfl) (by kernel_rfl) (by kernel_rfl) ?_
 intro v4 W hc hb
 have hcell := hc k _ (sc_at (by rw [two_len]; exact hk))
 obtain ⟨s,hs⟩ : ∃ s,s = str (tabTwo.getD k []) := ⟨_,rfl⟩
 rw [← hs] at hcell ⊢
 clear hc hs
 go_wp2
 go_ret
 exact ⟨rfl,hb⟩
theorem one_says (k : Nat) (hk : k < 211) (w : World) : Calls Tryz.prog 9 #[.int .i64 k] w fun e w' => e = .returned (.string (str (tabOne.getD k []))) ∧ Below w.heap.size w w' := by
 refine calls_of_wp (c := .seq (.region 0 #[ops0 Tryz.f9] false) (.seq (.region 1 #[ops1 Tryz.f9 0, ops1 Tryz.f9 1, ops1 Tryz.f9 2] false) (.seq (.region 2 #[{ dst := some 5, op := Op.move (Operand.tmp 0), type := 3, pos := "table.go:34", after := #[], guard := none }, { dst := some 6, op := Op.indexAddr 52 (Operand.tmp 3) (Operand.tmp 5), type := 0, pos := "table.go:34", after := #[{ on := 0, ground := Ground.data }], guard := none }, { dst := some 7, op := Op.load 9 (Operand.tmp 6), type := 9, pos := "table.go:34", after := #[{ on := 1, ground := Ground.data }], guard := none }, { dst := some 2, op := Op.assign (Operand.tmp 7), type := 9, pos := "table.go:34", after := #[{ on := 2, ground := Ground.data }, { on := 0, ground := Ground.phase }, { on := 1, ground := Ground.phase }, { on := 2, ground := Ground.phase }], guard := none }] false) .ret))) Tryz.func9 (by kernel_rfl) ?_
 show Code.wp _ _ _ { tmps := #[.int .i64 k,undef,undef,undef,undef,undef,undef,undef],defers := [] } _
 refine tab_front (T := 52) (parts := partsOf (buildOf Tryz.f9)) (cs := (sc tabOne).toArray) (zs := Array.replicate 211 (.string ⟨#[]⟩)) ⟨by kernel_rfl,by kernel_rfl,by kernel_rfl⟩ ⟨by kernel_rfl,by kernel_rfl,by kernel_rfl⟩ (fun _ => by kernel_rfl) ⟨by kernel_rfl,by kernel_rfl,by kernel_rfl⟩ (fun _ _ => by kernel_rfl) ⟨by kernel_rfl,by kernel_rfl,by kernel_rfl⟩ (by kernel_rfl) (by kernel_rfl) (by kernel_rfl) ?_
 intro v4 W hc hb
 have hcell := hc k _ (sc_at (by rw [one_len]; exact hk))
 obtain ⟨s,hs⟩ : ∃ s,s = str (tabOne.getD k []) := ⟨_,rfl⟩
 rw [← hs] at hcell ⊢
 clear hc hs
 go_wp2
 go_ret
 exact ⟨rfl,hb⟩
theorem three_says (k : Nat) (hk : k < 256) (w : World) : Calls Tryz.prog 11 #[.int .i64 k] w fun e w' => e = .returned (.string (str (tabThree.getD k []))) ∧ Below w.heap.size w w' := by
 refine calls_of_wp (c := .seq (.region 0 #[ops0 Tryz.f11] false) (.seq (.region 1 #[ops1 Tryz.f11 0, ops1 Tryz.f11 1, ops1 Tryz.f11 2] false) (.seq (.region 2 #[{ dst := some 5, op := Op.move (Operand.tmp 0), type := 3, pos := "table.go:95", after := #[], guard := none }, { dst := some 6, op := Op.indexAddr 54 (Operand.tmp 3) (Operand.tmp 5), type := 0, pos := "table.go:95", after := #[{ on := 0, ground := Ground.data }], guard := none }, { dst := some 7, op := Op.load 9 (Operand.tmp 6), type := 9, pos := "table.go:95", after := #[{ on := 1, ground := Ground.data }], guard := none }, { dst := some 2, op := Op.assign (Operand.tmp 7), type := 9, pos := "table.go:95", after := #[{ on := 2, ground := Ground.data }, { on := 0, ground := Ground.phase }, { on := 1, ground := Ground.phase }, { on := 2, ground := Ground.phase }], guard := none }] false) .ret))) Tryz.func11 (by kernel_rfl) ?_
 show Code.wp _ _ _ { tmps := #[.int .i64 k,undef,undef,undef,undef,undef,undef,undef],defers := [] } _
 refine tab_front (T := 54) (parts := partsOf (buildOf Tryz.f11)) (cs := (sc tabThree).toArray) (zs := Array.replicate 256 (.string ⟨#[]⟩)) ⟨by kernel_rfl,by kernel_rfl,by kernel_rfl⟩ ⟨by kernel_rfl,by kernel_rfl,by kernel_rfl⟩ (fun _ => by kernel_rfl) ⟨by kernel_rfl,by kernel_rfl,by kernel_rfl⟩ (fun _ _ => by kernel_rfl) ⟨by kernel_rfl,by kernel_rfl,by kernel_rfl⟩ (by kernel_rfl) (by kernel_rfl) (by kernel_rfl) ?_
 intro v4 W hc hb
 have hcell := hc k _ (sc_at (by rw [three_len]; exact hk))
 obtain ⟨s,hs⟩ : ∃ s,s = str (tabThree.getD k []) := ⟨_,rfl⟩
 rw [← hs] at hcell ⊢
 clear hc hs
 go_wp2
 go_ret
 exact ⟨rfl,hb⟩
end Go.Proofs.YtbbmbhcbncenaaaGreatDoor
namespace Go.Proofs.YtbbmbhcbncenaaaGreatDoor
open Go.RowKit
abbrev Rw := Int × List UInt8 × Int × List UInt8 × List UInt8 × Bool
def rw0 : Rw := (-1,[],0,[],[],false)
def rwV (r : Rw) : Value := .agg #[.int .i64 r.1,.string (str r.2.1),.int .i64 r.2.2.1,.string (str r.2.2.2.1),.string (str r.2.2.2.2.1),.bool r.2.2.2.2.2]
theorem none_says (w : World) : Calls Tryz.prog 13 #[] w fun e w' => e = .returned (rwV rw0) ∧ Below w.heap.size w w' := by
 go_enter Tryz.func13,Tryz.ntmps13
 go_wp2
 exact bodyPost_ret (v := rwV rw0) (by simp [results,Tryz.results13,go_sem,rwV,rw0,str]) rfl ⟨rfl,(Below.refl _ _).alloc (Nat.le_refl _) _⟩
def digF (n : Int) (c : UInt8) : Int := n * 10 + (c.toNat : Int) - 48
def digL (l : List UInt8) : Int := l.foldl digF 0
theorem dig_succ (l : List UInt8) (n : Nat) (h : n < l.length) : digL (l.take (n + 1)) = digL (l.take n) * 10 + (l[n].toNat : Int) - 48 := by
 rw [List.take_add_one,List.getElem?_eq_getElem h]
 unfold digL
 rw [List.foldl_append]
 rfl
theorem dig_bound (l : List UInt8) : ∀ n,n ≤ l.length → -(1000 ^ n : Int) ≤ digL (l.take n) ∧ digL (l.take n) ≤ 1000 ^ n
 | 0,_ => by simp [digL]
 | n + 1,h => by
  have ih := dig_bound l n (by omega)
  have hc := (l[n]'(by omega)).toNat_lt
  rw [dig_succ l n (by omega),Int.pow_succ]
  have hp : (1 : Int) ≤ 1000 ^ n := by have := Int.pow_pos (n := 1000) (m := n) (by decide); omega
  generalize (1000 : Int) ^ n = p at ih hp ⊢
  omega
set_option maxHeartbeats 4000000 in
theorem digits_says (l : List UInt8) (hl : l.length ≤ 4) (w : World) : Calls Tryz.prog 14 #[.string (str l)] w fun e w' => e = .returned (.int .i64 (digL l)) ∧ Below w.heap.size w w' := by
 obtain ⟨s,hs⟩ : ∃ s,s = str l := ⟨_,rfl⟩
 have hsz : s.size = l.length := by rw [hs,str_size]
 rw [← hs]
 have HS := hid hs
 clear hs
 obtain ⟨L,hL⟩ : ∃ L,L = l.length := ⟨_,rfl⟩
 rw [← hL] at hsz hl
 have HL := hid hL
 clear hL
 go_enter Tryz.func14,Tryz.ntmps14
 go_wp2
 go_loopw [3,4] (fun vn vi wr => ∃ n : Nat,Hid (n ≤ L) ∧ vi = .int .i64 n ∧ vn = .int .i64 (digL (l.take n)) ∧ Hid (Below w.heap.size w wr)) (fun _ vi _ => 5 - (intOf vi).toNat)
 case atStart => exact ⟨0,Nat.zero_le _,rfl,rfl,Below.refl _ _⟩
 case round =>
  obtain ⟨n,hn,rfl,rfl,HR⟩ := hrel
  by_cases hlt : n < L
  ·have hn1 := hid (show n + 1 ≤ L by omega)
   have hnll : n < l.length := by rw [← HL.out]; exact hlt
   obtain ⟨c,hc⟩ : ∃ c,c = l[n]'hnll := ⟨_,rfl⟩
   have hget : ∀ h : n < s.size,(s[n]'h) = c := fun h => by
    have e := HS.out
    subst e
    exact (str_get l n hnll _).trans hc.symm
   have HD := hid (dig_succ l n hnll)
   rw [← hc] at HD
   have hb := dig_bound l n (Nat.le_of_lt hnll)
   obtain ⟨q,hq⟩ : ∃ q,q = digL (l.take n) := ⟨_,rfl⟩
   rw [← hq] at hb HD ⊢
   have hcl := c.toNat_lt
   have hb2 : -1000000000000 ≤ q ∧ q ≤ 1000000000000 := by
    have hn4 : n = 0 ∨ n = 1 ∨ n = 2 ∨ n = 3 := by omega
    rcases hn4 with rfl | rfl | rfl | rfl <;> simp at hb <;> omega
   have e1 : wrap64 (q * 10) = q * 10 := by unfold wrap64; omega
   have e2 : wrap64 (q * 10 + (c.toNat : Int)) = q * 10 + (c.toNat : Int) := by unfold wrap64; omega
   have e3 : wrap64 (q * 10 + (c.toNat : Int) - 48) = q * 10 + (c.toNat : Int) - 48 := by unfold wrap64; omega
   have e4 : wrap64 (c.toNat : Int) = (c.toNat : Int) := by unfold wrap64; omega
   clear hb hb2 hcl hc hq
   go_wp2
   go_roundw
   case rel => exact ⟨n + 1,hn1.out,by go_num,by rw [HD.out,e3],HR.out⟩
   case measure => (first | (simp [intOf]; done) | (simp [intOf]; omega))
  ·obtain rfl : n = L := by have := hn.out; omega
   rw [show l.take n = l by rw [HL.out,List.take_length]]
   obtain ⟨q,hq⟩ : ∃ q,q = digL l := ⟨_,rfl⟩
   rw [← hq]
   go_wp2
   go_ret
   exact ⟨by rw [← hq]; rfl,HR.out⟩
end Go.Proofs.YtbbmbhcbncenaaaGreatDoor
