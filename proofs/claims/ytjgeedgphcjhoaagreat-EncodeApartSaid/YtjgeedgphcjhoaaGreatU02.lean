/-
  Line, Ops1, Fo, EMath: merged, what the law does not reach left out (each text says what it holds where it lies in wip). No condition.
-/
import Derived.Test.YtjgeedgphcjhoaaGreatU01
import Derived.OwnWalk
set_option linter.unusedSimpArgs false
set_option linter.unusedVariables false
set_option maxRecDepth 100000
namespace Go.Proofs.YtjgeedgphcjhoaaGreat
open Go.RowKit
theorem bcell {W w1 : World} (hb : Below W.heap.size W w1) : (∀ b o,b < W.heap.size → w1.cell? ⟨b,o,none⟩ = W.cell? ⟨b,o,none⟩) ∧ (∀ b o,b < W.heap.size → w1.frozen? ⟨b,o,none⟩ = W.frozen? ⟨b,o,none⟩) :=
 ⟨fun b o h => hb.cell (p := ⟨b,o,none⟩) h,fun b o h => hb.frozen (p := ⟨b,o,none⟩) h⟩
theorem below_four {w w1 : World} {o : Obj} (hb : Below (w.alloc o).heap.size (w.alloc o) w1) (a b c d : Value) :
  Below w.heap.size w ((((w1.setCell ⟨w.heap.size,0,none⟩ a).setCell ⟨w.heap.size,1,none⟩ b).setCell ⟨w.heap.size,2,none⟩ c).setCell ⟨w.heap.size,3,none⟩ d) :=
 ((((((Below.refl _ _).alloc (Nat.le_refl _) o).trans (hb.mono (by simp))).setCell (Nat.le_refl _) _).setCell (Nat.le_refl _) _).setCell (Nat.le_refl _) _).setCell (Nat.le_refl _) _
noncomputable def plainL (op : Int) : Ln :=
 if op < 40 then tab39.getD (op - 0).toNat ln0 else if op < 69 then tab40.getD (op - 40).toNat ln0 else if op < 103 then tab41.getD (op - 69).toNat ln0 else if op < 139 then tab42.getD (op - 103).toNat ln0 else if op < 167 then tab43.getD (op - 139).toNat ln0 else if op < 197 then tab44.getD (op - 167).toNat ln0 else if 208 ≤ op then tab45.getD (op - 208).toNat ln0 else ln0
noncomputable def vectorL (op : Int) : Ln :=
 if op < 14 then tab46.getD (op - 0).toNat ln0 else if op < 35 then tab47.getD (op - 14).toNat ln0 else if op < 77 then tab48.getD (op - 35).toNat ln0 else if op < 96 then tab49.getD (op - 77).toNat ln0 else if op < 128 then tab50.getD (op - 96).toNat ln0 else if op < 160 then tab51.getD (op - 128).toNat ln0 else if op < 192 then tab52.getD (op - 160).toNat ln0 else if op < 224 then tab53.getD (op - 192).toNat ln0 else tab54.getD (op - 224).toNat ln0
noncomputable def lineL (op : Int) : Ln :=
 if op < 0 then ln0 else if op < 211 then plainL op else if 64512 ≤ op ∧ op < 64530 then tab37.getD (op - 64512).toNat ln0 else if 64768 ≤ op ∧ op < 65024 then vectorL (op - 64768) else ln0
set_option maxHeartbeats 1000000 in
theorem plain_0 (op : Int) (w : World) (c0 : 0 ≤ op) (c1 : op < 40) : Calls Tryz.prog 237 #[.int .i64 op] w fun e w' => e = .returned (lnV (plainL op)) ∧ Below w.heap.size w w' := by
 obtain ⟨r,hr⟩ : ∃ r,r = tab39.getD (op - 0).toNat ln0 := ⟨_,rfl⟩
 have HP := hid (show plainL op = r by unfold plainL; rw [if_pos c1,hr])
 have H := fun W => hid (says39 op W (by omega) (by omega))
 rw [show op.toNat = (op - 0).toNat by simp,← hr] at H
 clear hr
 go_enter Tryz.func237,Tryz.ntmps237
 go_wp2_with fail
 refine (H _).out.mono ?_
 rintro e w1 ⟨rfl,hb⟩
 obtain ⟨hc,hf⟩ := bcell hb
 unfold lnV
 go_wp2
 exact bodyPost_ret (v := lnV r) (by simp [results,Tryz.results237,go_sem,hc,lnV]) rfl ⟨by rw [HP.out],below_four hb _ _ _ _⟩
set_option maxHeartbeats 1000000 in
theorem plain_1 (op : Int) (w : World) (c0 : 0 ≤ op) (c1 : ¬ op < 40) (c2 : op < 69) : Calls Tryz.prog 237 #[.int .i64 op] w fun e w' => e = .returned (lnV (plainL op)) ∧ Below w.heap.size w w' := by
 obtain ⟨r,hr⟩ : ∃ r,r = tab40.getD (op - 40).toNat ln0 := ⟨_,rfl⟩
 have HP := hid (show plainL op = r by unfold plainL; rw [if_neg c1,if_pos c2,hr])
 have H := fun W => hid (says40 (op - 40) W (by omega) (by omega))
 rw [show (op - 40).toNat = (op - 40).toNat by simp,← hr] at H
 clear hr
 go_enter Tryz.func237,Tryz.ntmps237
 go_wp2_with fail
 refine (H _).out.mono ?_
 rintro e w1 ⟨rfl,hb⟩
 obtain ⟨hc,hf⟩ := bcell hb
 unfold lnV
 go_wp2
 exact bodyPost_ret (v := lnV r) (by simp [results,Tryz.results237,go_sem,hc,lnV]) rfl ⟨by rw [HP.out],below_four hb _ _ _ _⟩
set_option maxHeartbeats 1000000 in
theorem plain_2 (op : Int) (w : World) (c0 : 0 ≤ op) (c1 : ¬ op < 40) (c2 : ¬ op < 69) (c3 : op < 103) : Calls Tryz.prog 237 #[.int .i64 op] w fun e w' => e = .returned (lnV (plainL op)) ∧ Below w.heap.size w w' := by
 obtain ⟨r,hr⟩ : ∃ r,r = tab41.getD (op - 69).toNat ln0 := ⟨_,rfl⟩
 have HP := hid (show plainL op = r by unfold plainL; rw [if_neg c1,if_neg c2,if_pos c3,hr])
 have H := fun W => hid (says41 (op - 69) W (by omega) (by omega))
 rw [show (op - 69).toNat = (op - 69).toNat by simp,← hr] at H
 clear hr
 go_enter Tryz.func237,Tryz.ntmps237
 go_wp2_with fail
 refine (H _).out.mono ?_
 rintro e w1 ⟨rfl,hb⟩
 obtain ⟨hc,hf⟩ := bcell hb
 unfold lnV
 go_wp2
 exact bodyPost_ret (v := lnV r) (by simp [results,Tryz.results237,go_sem,hc,lnV]) rfl ⟨by rw [HP.out],below_four hb _ _ _ _⟩
set_option maxHeartbeats 1000000 in
theorem plain_3 (op : Int) (w : World) (c0 : 0 ≤ op) (c1 : ¬ op < 40) (c2 : ¬ op < 69) (c3 : ¬ op < 103) (c4 : op < 139) : Calls Tryz.prog 237 #[.int .i64 op] w fun e w' => e = .returned (lnV (plainL op)) ∧ Below w.heap.size w w' := by
 obtain ⟨r,hr⟩ : ∃ r,r = tab42.getD (op - 103).toNat ln0 := ⟨_,rfl⟩
 have HP := hid (show plainL op = r by unfold plainL; rw [if_neg c1,if_neg c2,if_neg c3,if_pos c4,hr])
 have H := fun W => hid (says42 (op - 103) W (by omega) (by omega))
 rw [show (op - 103).toNat = (op - 103).toNat by simp,← hr] at H
 clear hr
 go_enter Tryz.func237,Tryz.ntmps237
 go_wp2_with fail
 refine (H _).out.mono ?_
 rintro e w1 ⟨rfl,hb⟩
 obtain ⟨hc,hf⟩ := bcell hb
 unfold lnV
 go_wp2
 exact bodyPost_ret (v := lnV r) (by simp [results,Tryz.results237,go_sem,hc,lnV]) rfl ⟨by rw [HP.out],below_four hb _ _ _ _⟩
set_option maxHeartbeats 1000000 in
theorem plain_4 (op : Int) (w : World) (c0 : 0 ≤ op) (c1 : ¬ op < 40) (c2 : ¬ op < 69) (c3 : ¬ op < 103) (c4 : ¬ op < 139) (c5 : op < 167) : Calls Tryz.prog 237 #[.int .i64 op] w fun e w' => e = .returned (lnV (plainL op)) ∧ Below w.heap.size w w' := by
 obtain ⟨r,hr⟩ : ∃ r,r = tab43.getD (op - 139).toNat ln0 := ⟨_,rfl⟩
 have HP := hid (show plainL op = r by unfold plainL; rw [if_neg c1,if_neg c2,if_neg c3,if_neg c4,if_pos c5,hr])
 have H := fun W => hid (says43 (op - 139) W (by omega) (by omega))
 rw [show (op - 139).toNat = (op - 139).toNat by simp,← hr] at H
 clear hr
 go_enter Tryz.func237,Tryz.ntmps237
 go_wp2_with fail
 refine (H _).out.mono ?_
 rintro e w1 ⟨rfl,hb⟩
 obtain ⟨hc,hf⟩ := bcell hb
 unfold lnV
 go_wp2
 exact bodyPost_ret (v := lnV r) (by simp [results,Tryz.results237,go_sem,hc,lnV]) rfl ⟨by rw [HP.out],below_four hb _ _ _ _⟩
set_option maxHeartbeats 1000000 in
theorem plain_5 (op : Int) (w : World) (c0 : 0 ≤ op) (c1 : ¬ op < 40) (c2 : ¬ op < 69) (c3 : ¬ op < 103) (c4 : ¬ op < 139) (c5 : ¬ op < 167) (c6 : op < 197) : Calls Tryz.prog 237 #[.int .i64 op] w fun e w' => e = .returned (lnV (plainL op)) ∧ Below w.heap.size w w' := by
 obtain ⟨r,hr⟩ : ∃ r,r = tab44.getD (op - 167).toNat ln0 := ⟨_,rfl⟩
 have HP := hid (show plainL op = r by unfold plainL; rw [if_neg c1,if_neg c2,if_neg c3,if_neg c4,if_neg c5,if_pos c6,hr])
 have H := fun W => hid (says44 (op - 167) W (by omega) (by omega))
 rw [show (op - 167).toNat = (op - 167).toNat by simp,← hr] at H
 clear hr
 go_enter Tryz.func237,Tryz.ntmps237
 go_wp2_with fail
 refine (H _).out.mono ?_
 rintro e w1 ⟨rfl,hb⟩
 obtain ⟨hc,hf⟩ := bcell hb
 unfold lnV
 go_wp2
 exact bodyPost_ret (v := lnV r) (by simp [results,Tryz.results237,go_sem,hc,lnV]) rfl ⟨by rw [HP.out],below_four hb _ _ _ _⟩
set_option maxHeartbeats 1000000 in
theorem plain_ref (op : Int) (w : World) (c0 : 0 ≤ op) (c1 : ¬ op < 40) (c2 : ¬ op < 69) (c3 : ¬ op < 103) (c4 : ¬ op < 139) (c5 : ¬ op < 167) (c6 : ¬ op < 197) (c7 : 208 ≤ op) (c8 : op < 211) : Calls Tryz.prog 237 #[.int .i64 op] w fun e w' => e = .returned (lnV (plainL op)) ∧ Below w.heap.size w w' := by
 obtain ⟨r,hr⟩ : ∃ r,r = tab45.getD (op - 208).toNat ln0 := ⟨_,rfl⟩
 have HP := hid (show plainL op = r by unfold plainL; rw [if_neg c1,if_neg c2,if_neg c3,if_neg c4,if_neg c5,if_neg c6,if_pos c7,hr])
 have H := fun W => hid (says45 (op - 208) W (by omega) (by omega))
 rw [← hr] at H
 clear hr
 go_enter Tryz.func237,Tryz.ntmps237
 go_wp2_with fail
 refine (H _).out.mono ?_
 rintro e w1 ⟨rfl,hb⟩
 obtain ⟨hc,hf⟩ := bcell hb
 unfold lnV
 go_wp2
 exact bodyPost_ret (v := lnV r) (by simp [results,Tryz.results237,go_sem,hc,lnV]) rfl ⟨by rw [HP.out],below_four hb _ _ _ _⟩
set_option maxHeartbeats 1000000 in
theorem plain_none (op : Int) (w : World) (c0 : 0 ≤ op) (c1 : ¬ op < 40) (c2 : ¬ op < 69) (c3 : ¬ op < 103) (c4 : ¬ op < 139) (c5 : ¬ op < 167) (c6 : ¬ op < 197) (c7 : ¬ 208 ≤ op) : Calls Tryz.prog 237 #[.int .i64 op] w fun e w' => e = .returned (lnV (plainL op)) ∧ Below w.heap.size w w' := by
 have HP := hid (show plainL op = ln0 by unfold plainL; rw [if_neg c1,if_neg c2,if_neg c3,if_neg c4,if_neg c5,if_neg c6,if_neg c7])
 go_enter Tryz.func237,Tryz.ntmps237
 go_wp2_with fail
 exact bodyPost_ret (v := lnV ln0) (by simp [results,Tryz.results237,go_sem,lnV,ln0]) rfl ⟨by rw [HP.out],(Below.refl _ _).alloc (Nat.le_refl _) _⟩
theorem plain_says (op : Int) (w : World) (h0 : 0 ≤ op) (h1 : op < 211) : Calls Tryz.prog 237 #[.int .i64 op] w fun e w' => e = .returned (lnV (plainL op)) ∧ Below w.heap.size w w' := by
 by_cases d0 : op < 40
 ·exact plain_0 op w h0 d0
 by_cases d1 : op < 69
 ·exact plain_1 op w h0 d0 d1
 by_cases d2 : op < 103
 ·exact plain_2 op w h0 d0 d1 d2
 by_cases d3 : op < 139
 ·exact plain_3 op w h0 d0 d1 d2 d3
 by_cases d4 : op < 167
 ·exact plain_4 op w h0 d0 d1 d2 d3 d4
 by_cases d5 : op < 197
 ·exact plain_5 op w h0 d0 d1 d2 d3 d4 d5
 by_cases e : 208 ≤ op
 ·exact plain_ref op w h0 d0 d1 d2 d3 d4 d5 e h1
 exact plain_none op w h0 d0 d1 d2 d3 d4 d5 e
set_option maxHeartbeats 1000000 in
theorem vec_0 (op : Int) (w : World) (c0 : 0 ≤ op) (c1 : op < 14) : Calls Tryz.prog 239 #[.int .i64 op] w fun e w' => e = .returned (lnV (vectorL op)) ∧ Below w.heap.size w w' := by
 obtain ⟨r,hr⟩ : ∃ r,r = tab46.getD (op - 0).toNat ln0 := ⟨_,rfl⟩
 have HP := hid (show vectorL op = r by unfold vectorL; rw [if_pos c1,hr])
 have H := fun W => hid (says46 op W (by omega) (by omega))
 rw [show op.toNat = (op - 0).toNat by simp,← hr] at H
 clear hr
 go_enter Tryz.func239,Tryz.ntmps239
 go_wp2_with fail
 refine (H _).out.mono ?_
 rintro e w1 ⟨rfl,hb⟩
 obtain ⟨hc,hf⟩ := bcell hb
 unfold lnV
 go_wp2
 exact bodyPost_ret (v := lnV r) (by simp [results,Tryz.results239,go_sem,hc,lnV]) rfl ⟨by rw [HP.out],below_four hb _ _ _ _⟩
set_option maxHeartbeats 1000000 in
theorem vec_1 (op : Int) (w : World) (c0 : 0 ≤ op) (c1 : ¬ op < 14) (c2 : op < 35) : Calls Tryz.prog 239 #[.int .i64 op] w fun e w' => e = .returned (lnV (vectorL op)) ∧ Below w.heap.size w w' := by
 obtain ⟨r,hr⟩ : ∃ r,r = tab47.getD (op - 14).toNat ln0 := ⟨_,rfl⟩
 have HP := hid (show vectorL op = r by unfold vectorL; rw [if_neg c1,if_pos c2,hr])
 have H := fun W => hid (says47 (op - 14) W (by omega) (by omega))
 rw [show (op - 14).toNat = (op - 14).toNat by simp,← hr] at H
 clear hr
 go_enter Tryz.func239,Tryz.ntmps239
 go_wp2_with fail
 refine (H _).out.mono ?_
 rintro e w1 ⟨rfl,hb⟩
 obtain ⟨hc,hf⟩ := bcell hb
 unfold lnV
 go_wp2
 exact bodyPost_ret (v := lnV r) (by simp [results,Tryz.results239,go_sem,hc,lnV]) rfl ⟨by rw [HP.out],below_four hb _ _ _ _⟩
set_option maxHeartbeats 1000000 in
theorem vec_2 (op : Int) (w : World) (c0 : 0 ≤ op) (c1 : ¬ op < 14) (c2 : ¬ op < 35) (c3 : op < 77) : Calls Tryz.prog 239 #[.int .i64 op] w fun e w' => e = .returned (lnV (vectorL op)) ∧ Below w.heap.size w w' := by
 obtain ⟨r,hr⟩ : ∃ r,r = tab48.getD (op - 35).toNat ln0 := ⟨_,rfl⟩
 have HP := hid (show vectorL op = r by unfold vectorL; rw [if_neg c1,if_neg c2,if_pos c3,hr])
 have H := fun W => hid (says48 (op - 35) W (by omega) (by omega))
 rw [show (op - 35).toNat = (op - 35).toNat by simp,← hr] at H
 clear hr
 go_enter Tryz.func239,Tryz.ntmps239
 go_wp2_with fail
 refine (H _).out.mono ?_
 rintro e w1 ⟨rfl,hb⟩
 obtain ⟨hc,hf⟩ := bcell hb
 unfold lnV
 go_wp2
 exact bodyPost_ret (v := lnV r) (by simp [results,Tryz.results239,go_sem,hc,lnV]) rfl ⟨by rw [HP.out],below_four hb _ _ _ _⟩
set_option maxHeartbeats 1000000 in
theorem vec_3 (op : Int) (w : World) (c0 : 0 ≤ op) (c1 : ¬ op < 14) (c2 : ¬ op < 35) (c3 : ¬ op < 77) (c4 : op < 96) : Calls Tryz.prog 239 #[.int .i64 op] w fun e w' => e = .returned (lnV (vectorL op)) ∧ Below w.heap.size w w' := by
 obtain ⟨r,hr⟩ : ∃ r,r = tab49.getD (op - 77).toNat ln0 := ⟨_,rfl⟩
 have HP := hid (show vectorL op = r by unfold vectorL; rw [if_neg c1,if_neg c2,if_neg c3,if_pos c4,hr])
 have H := fun W => hid (says49 (op - 77) W (by omega) (by omega))
 rw [show (op - 77).toNat = (op - 77).toNat by simp,← hr] at H
 clear hr
 go_enter Tryz.func239,Tryz.ntmps239
 go_wp2_with fail
 refine (H _).out.mono ?_
 rintro e w1 ⟨rfl,hb⟩
 obtain ⟨hc,hf⟩ := bcell hb
 unfold lnV
 go_wp2
 exact bodyPost_ret (v := lnV r) (by simp [results,Tryz.results239,go_sem,hc,lnV]) rfl ⟨by rw [HP.out],below_four hb _ _ _ _⟩
set_option maxHeartbeats 1000000 in
theorem vec_4 (op : Int) (w : World) (c0 : 0 ≤ op) (c1 : ¬ op < 14) (c2 : ¬ op < 35) (c3 : ¬ op < 77) (c4 : ¬ op < 96) (c5 : op < 128) : Calls Tryz.prog 239 #[.int .i64 op] w fun e w' => e = .returned (lnV (vectorL op)) ∧ Below w.heap.size w w' := by
 obtain ⟨r,hr⟩ : ∃ r,r = tab50.getD (op - 96).toNat ln0 := ⟨_,rfl⟩
 have HP := hid (show vectorL op = r by unfold vectorL; rw [if_neg c1,if_neg c2,if_neg c3,if_neg c4,if_pos c5,hr])
 have H := fun W => hid (says50 (op - 96) W (by omega) (by omega))
 rw [show (op - 96).toNat = (op - 96).toNat by simp,← hr] at H
 clear hr
 go_enter Tryz.func239,Tryz.ntmps239
 go_wp2_with fail
 refine (H _).out.mono ?_
 rintro e w1 ⟨rfl,hb⟩
 obtain ⟨hc,hf⟩ := bcell hb
 unfold lnV
 go_wp2
 exact bodyPost_ret (v := lnV r) (by simp [results,Tryz.results239,go_sem,hc,lnV]) rfl ⟨by rw [HP.out],below_four hb _ _ _ _⟩
set_option maxHeartbeats 1000000 in
theorem vec_5 (op : Int) (w : World) (c0 : 0 ≤ op) (c1 : ¬ op < 14) (c2 : ¬ op < 35) (c3 : ¬ op < 77) (c4 : ¬ op < 96) (c5 : ¬ op < 128) (c6 : op < 160) : Calls Tryz.prog 239 #[.int .i64 op] w fun e w' => e = .returned (lnV (vectorL op)) ∧ Below w.heap.size w w' := by
 obtain ⟨r,hr⟩ : ∃ r,r = tab51.getD (op - 128).toNat ln0 := ⟨_,rfl⟩
 have HP := hid (show vectorL op = r by unfold vectorL; rw [if_neg c1,if_neg c2,if_neg c3,if_neg c4,if_neg c5,if_pos c6,hr])
 have H := fun W => hid (says51 (op - 128) W (by omega) (by omega))
 rw [show (op - 128).toNat = (op - 128).toNat by simp,← hr] at H
 clear hr
 go_enter Tryz.func239,Tryz.ntmps239
 go_wp2_with fail
 refine (H _).out.mono ?_
 rintro e w1 ⟨rfl,hb⟩
 obtain ⟨hc,hf⟩ := bcell hb
 unfold lnV
 go_wp2
 exact bodyPost_ret (v := lnV r) (by simp [results,Tryz.results239,go_sem,hc,lnV]) rfl ⟨by rw [HP.out],below_four hb _ _ _ _⟩
set_option maxHeartbeats 1000000 in
theorem vec_6 (op : Int) (w : World) (c0 : 0 ≤ op) (c1 : ¬ op < 14) (c2 : ¬ op < 35) (c3 : ¬ op < 77) (c4 : ¬ op < 96) (c5 : ¬ op < 128) (c6 : ¬ op < 160) (c7 : op < 192) : Calls Tryz.prog 239 #[.int .i64 op] w fun e w' => e = .returned (lnV (vectorL op)) ∧ Below w.heap.size w w' := by
 obtain ⟨r,hr⟩ : ∃ r,r = tab52.getD (op - 160).toNat ln0 := ⟨_,rfl⟩
 have HP := hid (show vectorL op = r by unfold vectorL; rw [if_neg c1,if_neg c2,if_neg c3,if_neg c4,if_neg c5,if_neg c6,if_pos c7,hr])
 have H := fun W => hid (says52 (op - 160) W (by omega) (by omega))
 rw [show (op - 160).toNat = (op - 160).toNat by simp,← hr] at H
 clear hr
 go_enter Tryz.func239,Tryz.ntmps239
 go_wp2_with fail
 refine (H _).out.mono ?_
 rintro e w1 ⟨rfl,hb⟩
 obtain ⟨hc,hf⟩ := bcell hb
 unfold lnV
 go_wp2
 exact bodyPost_ret (v := lnV r) (by simp [results,Tryz.results239,go_sem,hc,lnV]) rfl ⟨by rw [HP.out],below_four hb _ _ _ _⟩
set_option maxHeartbeats 1000000 in
theorem vec_7 (op : Int) (w : World) (c0 : 0 ≤ op) (c1 : ¬ op < 14) (c2 : ¬ op < 35) (c3 : ¬ op < 77) (c4 : ¬ op < 96) (c5 : ¬ op < 128) (c6 : ¬ op < 160) (c7 : ¬ op < 192) (c8 : op < 224) : Calls Tryz.prog 239 #[.int .i64 op] w fun e w' => e = .returned (lnV (vectorL op)) ∧ Below w.heap.size w w' := by
 obtain ⟨r,hr⟩ : ∃ r,r = tab53.getD (op - 192).toNat ln0 := ⟨_,rfl⟩
 have HP := hid (show vectorL op = r by unfold vectorL; rw [if_neg c1,if_neg c2,if_neg c3,if_neg c4,if_neg c5,if_neg c6,if_neg c7,if_pos c8,hr])
 have H := fun W => hid (says53 (op - 192) W (by omega) (by omega))
 rw [show (op - 192).toNat = (op - 192).toNat by simp,← hr] at H
 clear hr
 go_enter Tryz.func239,Tryz.ntmps239
 go_wp2_with fail
 refine (H _).out.mono ?_
 rintro e w1 ⟨rfl,hb⟩
 obtain ⟨hc,hf⟩ := bcell hb
 unfold lnV
 go_wp2
 exact bodyPost_ret (v := lnV r) (by simp [results,Tryz.results239,go_sem,hc,lnV]) rfl ⟨by rw [HP.out],below_four hb _ _ _ _⟩
set_option maxHeartbeats 1000000 in
theorem vec_last (op : Int) (w : World) (c0 : 0 ≤ op) (c1 : ¬ op < 14) (c2 : ¬ op < 35) (c3 : ¬ op < 77) (c4 : ¬ op < 96) (c5 : ¬ op < 128) (c6 : ¬ op < 160) (c7 : ¬ op < 192) (c8 : ¬ op < 224) (c9 : op < 256) : Calls Tryz.prog 239 #[.int .i64 op] w fun e w' => e = .returned (lnV (vectorL op)) ∧ Below w.heap.size w w' := by
 obtain ⟨r,hr⟩ : ∃ r,r = tab54.getD (op - 224).toNat ln0 := ⟨_,rfl⟩
 have HP := hid (show vectorL op = r by unfold vectorL; rw [if_neg c1,if_neg c2,if_neg c3,if_neg c4,if_neg c5,if_neg c6,if_neg c7,if_neg c8,hr])
 have H := fun W => hid (says54 (op - 224) W (by omega) (by omega))
 rw [← hr] at H
 clear hr
 go_enter Tryz.func239,Tryz.ntmps239
 go_wp2_with fail
 refine (H _).out.mono ?_
 rintro e w1 ⟨rfl,hb⟩
 obtain ⟨hc,hf⟩ := bcell hb
 unfold lnV
 go_wp2
 exact bodyPost_ret (v := lnV r) (by simp [results,Tryz.results239,go_sem,hc,lnV]) rfl ⟨by rw [HP.out],below_four hb _ _ _ _⟩
theorem vector_says (op : Int) (w : World) (h0 : 0 ≤ op) (h1 : op < 256) : Calls Tryz.prog 239 #[.int .i64 op] w fun e w' => e = .returned (lnV (vectorL op)) ∧ Below w.heap.size w w' := by
 by_cases d0 : op < 14
 ·exact vec_0 op w h0 d0
 by_cases d1 : op < 35
 ·exact vec_1 op w h0 d0 d1
 by_cases d2 : op < 77
 ·exact vec_2 op w h0 d0 d1 d2
 by_cases d3 : op < 96
 ·exact vec_3 op w h0 d0 d1 d2 d3
 by_cases d4 : op < 128
 ·exact vec_4 op w h0 d0 d1 d2 d3 d4
 by_cases d5 : op < 160
 ·exact vec_5 op w h0 d0 d1 d2 d3 d4 d5
 by_cases d6 : op < 192
 ·exact vec_6 op w h0 d0 d1 d2 d3 d4 d5 d6
 by_cases d7 : op < 224
 ·exact vec_7 op w h0 d0 d1 d2 d3 d4 d5 d6 d7
 exact vec_last op w h0 d0 d1 d2 d3 d4 d5 d6 d7 h1
set_option maxHeartbeats 1000000 in
theorem line_neg (op : Int) (w : World) (c0 : op < 0) : Calls Tryz.prog 215 #[.int .i64 op] w fun e w' => e = .returned (lnV (lineL op)) ∧ Below w.heap.size w w' := by
 have HP := hid (show lineL op = ln0 by unfold lineL; rw [if_pos c0])
 go_enter Tryz.func215,Tryz.ntmps215
 go_wp2_with fail
 exact bodyPost_ret (v := lnV ln0) (by simp [results,Tryz.results215,go_sem,lnV,ln0]) rfl ⟨by rw [HP.out],(Below.refl _ _).alloc (Nat.le_refl _) _⟩
set_option maxHeartbeats 1000000 in
theorem line_plain (op : Int) (w : World) (c0 : ¬ op < 0) (c1 : op < 211) : Calls Tryz.prog 215 #[.int .i64 op] w fun e w' => e = .returned (lnV (lineL op)) ∧ Below w.heap.size w w' := by
 obtain ⟨r,hr⟩ : ∃ r,r = plainL op := ⟨_,rfl⟩
 have HP := hid (show lineL op = r by unfold lineL; rw [if_neg c0,if_pos c1,hr])
 have H := fun W => hid (plain_says op W (by omega) c1)
 rw [← hr] at H
 clear hr
 go_enter Tryz.func215,Tryz.ntmps215
 go_wp2_with fail
 refine (H _).out.mono ?_
 rintro e w1 ⟨rfl,hb⟩
 obtain ⟨hc,hf⟩ := bcell hb
 unfold lnV
 go_wp2
 exact bodyPost_ret (v := lnV r) (by simp [results,Tryz.results215,go_sem,hc,lnV]) rfl ⟨by rw [HP.out],below_four hb _ _ _ _⟩
set_option maxHeartbeats 1000000 in
theorem line_bulk (op : Int) (w : World) (c0 : ¬ op < 0) (c1 : ¬ op < 211) (c2 : 64512 ≤ op) (c3 : op < 64530) : Calls Tryz.prog 215 #[.int .i64 op] w fun e w' => e = .returned (lnV (lineL op)) ∧ Below w.heap.size w w' := by
 obtain ⟨r,hr⟩ : ∃ r,r = tab37.getD (op - 64512).toNat ln0 := ⟨_,rfl⟩
 have HP := hid (show lineL op = r by unfold lineL; rw [if_neg c0,if_neg c1,if_pos ⟨c2,c3⟩,hr])
 have H := fun W => hid (says37 (op - 64512) W (by omega) (by omega))
 rw [← hr] at H
 clear hr
 go_enter Tryz.func215,Tryz.ntmps215
 go_wp2_with fail
 refine (H _).out.mono ?_
 rintro e w1 ⟨rfl,hb⟩
 obtain ⟨hc,hf⟩ := bcell hb
 unfold lnV
 go_wp2
 exact bodyPost_ret (v := lnV r) (by simp [results,Tryz.results215,go_sem,hc,lnV]) rfl ⟨by rw [HP.out],below_four hb _ _ _ _⟩
set_option maxHeartbeats 1000000 in
theorem line_vec (op : Int) (w : World) (c0 : ¬ op < 0) (c1 : ¬ op < 211) (c2 : ¬ op < 64530) (c3 : 64768 ≤ op) (c4 : op < 65024) : Calls Tryz.prog 215 #[.int .i64 op] w fun e w' => e = .returned (lnV (lineL op)) ∧ Below w.heap.size w w' := by
 obtain ⟨r,hr⟩ : ∃ r,r = vectorL (op - 64768) := ⟨_,rfl⟩
 have HP := hid (show lineL op = r by unfold lineL; rw [if_neg c0,if_neg c1,if_neg (fun h => c2 h.2),if_pos ⟨c3,c4⟩,hr])
 have H := fun W => hid (vector_says (op - 64768) W (by omega) (by omega))
 rw [← hr] at H
 clear hr
 have q : 64512 ≤ op := by omega
 go_enter Tryz.func215,Tryz.ntmps215
 go_wp2_with fail
 refine (H _).out.mono ?_
 rintro e w1 ⟨rfl,hb⟩
 obtain ⟨hc,hf⟩ := bcell hb
 unfold lnV
 go_wp2
 exact bodyPost_ret (v := lnV r) (by simp [results,Tryz.results215,go_sem,hc,lnV]) rfl ⟨by rw [HP.out],below_four hb _ _ _ _⟩
set_option maxHeartbeats 1000000 in
theorem line_gap1 (op : Int) (w : World) (c0 : ¬ op < 0) (c1 : ¬ op < 211) (c2 : ¬ 64512 ≤ op) : Calls Tryz.prog 215 #[.int .i64 op] w fun e w' => e = .returned (lnV (lineL op)) ∧ Below w.heap.size w w' := by
 have HP := hid (show lineL op = ln0 by unfold lineL; rw [if_neg c0,if_neg c1,if_neg (fun h => c2 h.1),if_neg (fun h => c2 (by omega))])
 have q : ¬ 64768 ≤ op := by omega
 go_enter Tryz.func215,Tryz.ntmps215
 go_wp2_with fail
 exact bodyPost_ret (v := lnV ln0) (by simp [results,Tryz.results215,go_sem,lnV,ln0]) rfl ⟨by rw [HP.out],(Below.refl _ _).alloc (Nat.le_refl _) _⟩
set_option maxHeartbeats 1000000 in
theorem line_gap2 (op : Int) (w : World) (c0 : ¬ op < 0) (c1 : ¬ op < 211) (c2 : 64512 ≤ op) (c3 : ¬ op < 64530) (c4 : ¬ 64768 ≤ op) : Calls Tryz.prog 215 #[.int .i64 op] w fun e w' => e = .returned (lnV (lineL op)) ∧ Below w.heap.size w w' := by
 have HP := hid (show lineL op = ln0 by unfold lineL; rw [if_neg c0,if_neg c1,if_neg (fun h => c3 h.2),if_neg (fun h => c4 h.1)])
 go_enter Tryz.func215,Tryz.ntmps215
 go_wp2_with fail
 exact bodyPost_ret (v := lnV ln0) (by simp [results,Tryz.results215,go_sem,lnV,ln0]) rfl ⟨by rw [HP.out],(Below.refl _ _).alloc (Nat.le_refl _) _⟩
set_option maxHeartbeats 1000000 in
theorem line_gap3 (op : Int) (w : World) (c0 : ¬ op < 0) (c1 : ¬ op < 211) (c2 : 64512 ≤ op) (c3 : ¬ op < 64530) (c4 : 64768 ≤ op) (c5 : ¬ op < 65024) : Calls Tryz.prog 215 #[.int .i64 op] w fun e w' => e = .returned (lnV (lineL op)) ∧ Below w.heap.size w w' := by
 have HP := hid (show lineL op = ln0 by unfold lineL; rw [if_neg c0,if_neg c1,if_neg (fun h => c3 h.2),if_neg (fun h => c5 h.2)])
 go_enter Tryz.func215,Tryz.ntmps215
 go_wp2_with fail
 exact bodyPost_ret (v := lnV ln0) (by simp [results,Tryz.results215,go_sem,lnV,ln0]) rfl ⟨by rw [HP.out],(Below.refl _ _).alloc (Nat.le_refl _) _⟩
theorem line_says (op : Int) (w : World) : Calls Tryz.prog 215 #[.int .i64 op] w fun e w' => e = .returned (lnV (lineL op)) ∧ Below w.heap.size w w' := by
 by_cases c0 : op < 0
 ·exact line_neg op w c0
 by_cases c1 : op < 211
 ·exact line_plain op w c0 c1
 by_cases c2 : 64512 ≤ op
 ·by_cases c3 : op < 64530
  ·exact line_bulk op w c0 c1 c2 c3
  by_cases c4 : 64768 ≤ op
  ·by_cases c5 : op < 65024
   ·exact line_vec op w c0 c1 c3 c4 c5
   exact line_gap3 op w c0 c1 c2 c3 c4 c5
  exact line_gap2 op w c0 c1 c2 c3 c4
 exact line_gap1 op w c0 c1 c2
end Go.Proofs.YtjgeedgphcjhoaaGreat
namespace Go.Proofs.YtjgeedgphcjhoaaGreat
open Go.RowKit
def glob0 : List Int := [2,3,2,3,0,0,1,1,0,0,1,1,2,2,2,3,2,3,0,1,0,1,2]
def glob1 : List Int := [4,3,3,3,3,3,3,0,1,2,3,4]
def glob2 : List Int := [0,1,2,3,0,1,2,3,2,3]
def glob3 : List Int := [16,16,16,8,8,8,4,4,2,2,4,4,2,2]
def glob5 : List Int := [0,0,0,0,0,0,127,0,0,126,0,0,125,0,0,124,0,0,123,0,0,112,0,0,127,127,0,127,126,0,127,125,0,127,124,0,127,123,0,126,126,0,125,125,0,124,124,0,123,127,0,123,126,0,123,125,0,123,124,0,123,123,0,127,127,127,123,123,123]
structure Glob (w : World) : Prop where
 size : 6 ≤ w.heap.size
 c0 : ∀ j,j < 23 → w.cell? ⟨3,j,none⟩ = some (.int .i64 (glob0.getD j 0))
 c1 : ∀ j,j < 12 → w.cell? ⟨4,j,none⟩ = some (.int .i64 (glob1.getD j 0))
 c2 : ∀ j,j < 10 → w.cell? ⟨5,j,none⟩ = some (.int .i64 (glob2.getD j 0))
 c3 : ∀ j,j < 14 → w.cell? ⟨2,j,none⟩ = some (.int .i64 (glob3.getD j 0))
 c5 : ∀ j,j < 69 → w.cell? ⟨0,j,none⟩ = some (.int .i64 (glob5.getD j 0))
theorem Glob.below {B : Nat} {w w' : World} (h : Glob w) (hb : Below B w w') (hB : 6 ≤ B) : Glob w' where
 size := Nat.le_trans h.size hb.size
 c0 j hj := by rw [hb.cell (p := ⟨3,j,none⟩) (show 3 < B by omega),h.c0 j hj]
 c1 j hj := by rw [hb.cell (p := ⟨4,j,none⟩) (show 4 < B by omega),h.c1 j hj]
 c2 j hj := by rw [hb.cell (p := ⟨5,j,none⟩) (show 5 < B by omega),h.c2 j hj]
 c3 j hj := by rw [hb.cell (p := ⟨2,j,none⟩) (show 2 < B by omega),h.c3 j hj]
 c5 j hj := by rw [hb.cell (p := ⟨0,j,none⟩) (show 0 < B by omega),h.c5 j hj]
theorem Glob.next {w w' : World} (h : Glob w) (hb : Below w.heap.size w w') : Glob w' := h.below hb h.size
def rangeOps : List Int := (List.range 211).map (fun k : Nat => (k : Int)) ++ (List.range 18).map (fun k : Nat => 64512 + (k : Int)) ++ (List.range 256).map (fun k : Nat => 64768 + (k : Int))
theorem mem_rangeOps (op : Int) : op ∈ rangeOps ↔ (0 ≤ op ∧ op < 211) ∨ (64512 ≤ op ∧ op < 64530) ∨ (64768 ≤ op ∧ op < 65024) := by
 unfold rangeOps
 simp only [List.mem_append,List.mem_map,List.mem_range]
 constructor
 ·rintro ((⟨k,hk,rfl⟩ | ⟨k,hk,rfl⟩) | ⟨k,hk,rfl⟩) <;> omega
 rintro (⟨h0,h1⟩ | ⟨h0,h1⟩ | ⟨h0,h1⟩)
 ·exact .inl (.inl ⟨op.toNat,by omega,by omega⟩)
 ·exact .inl (.inr ⟨(op - 64512).toNat,by omega,by omega⟩)
 exact .inr ⟨(op - 64768).toNat,by omega,by omega⟩
theorem lineL_out (op : Int) (h : ¬ op ∈ rangeOps) : lineL op = ln0 := by
 rw [mem_rangeOps] at h
 unfold lineL
 by_cases c0 : op < 0
 ·rw [if_pos c0]
 rw [if_neg c0,if_neg (by omega),if_neg (by omega),if_neg (by omega)]
def okLn (r : Ln) : Bool := decide (0 ≤ r.2.1) && decide (r.2.1 ≤ 26) && decide (0 ≤ r.2.2.1) && decide (r.2.2.1 < 23) && decide (0 ≤ r.2.2.2) && decide (r.2.2.2 < 23)
theorem all_ok : (rangeOps.all fun op => okLn (lineL op)) = true := by kernel_rfl
theorem line_ok (op : Int) : 0 ≤ (lineL op).2.1 ∧ (lineL op).2.1 ≤ 26 ∧ 0 ≤ (lineL op).2.2.1 ∧ (lineL op).2.2.1 < 23 ∧ 0 ≤ (lineL op).2.2.2 ∧ (lineL op).2.2.2 < 23 := by
 have h : okLn (lineL op) = true := by
  by_cases hin : op ∈ rangeOps
  ·exact List.all_eq_true.1 all_ok op hin
  rw [lineL_out op hin]; rfl
 unfold okLn at h
 simp only [Bool.and_eq_true,decide_eq_true_eq] at h
 omega
def knB (r : Ln) : Bool := !r.1.toList.isEmpty
def fxB (r : Ln) : Bool := r.2.2.1 != 0
theorem known_says (r : Ln) (w : World) : Calls Tryz.prog 249 #[lnV r] w fun e w' => e = .returned (.bool (knB r)) ∧ Below w.heap.size w w' := by
 obtain ⟨s,a,b,c⟩ := r
 show Calls Tryz.prog 249 #[.agg #[.string s,.int .u8 a,.int .u8 b,.int .u8 c]] w fun e w' => e = .returned (.bool (!s.toList.isEmpty)) ∧ Below w.heap.size w w'
 go_enter Tryz.func249,Tryz.ntmps249
 go_wp2
 go_ret
 exact ⟨rfl,(Below.refl _ _).alloc (Nat.le_refl _) _⟩
theorem run_imm (r : Ln) (w : World) : (Instr.field 215 (lnV r) 1).run Tryz.prog w = .ok (.int .u8 r.2.1) w := by kernel_rfl
theorem Known_says (op : Int) (w : World) : Calls Tryz.prog 233 #[.int .i64 op] w fun e w' => e = .returned (.bool (knB (lineL op))) ∧ Below w.heap.size w w' := by
 obtain ⟨r,hr⟩ : ∃ r,r = lineL op := ⟨_,rfl⟩
 have H := fun W => hid (line_says op W)
 have HK := fun W => hid (known_says r W)
 rw [← hr] at H ⊢
 clear hr
 obtain ⟨b,hb0⟩ : ∃ b,b = knB r := ⟨_,rfl⟩
 rw [← hb0] at HK ⊢
 clear hb0
 obtain ⟨v,hv⟩ : ∃ v,v = lnV r := ⟨_,rfl⟩
 rw [← hv] at H HK
 clear hv
 go_enter Tryz.func233,Tryz.ntmps233
 go_wp2_with (first | (go_at_call 215; refine (H _).out.mono ?_; rintro e w1 ⟨rfl,hb⟩) | (go_at_call 249; refine (HK _).out.mono ?_; rintro e w2 ⟨rfl,hb2⟩))
 go_ret
 exact ⟨rfl,hb.trans (hb2.mono hb.size)⟩
theorem Imm_says (op : Int) (w : World) : Calls Tryz.prog 152 #[.int .i64 op] w fun e w' => e = .returned (.int .i64 (lineL op).2.1) ∧ Below w.heap.size w w' := by
 obtain ⟨h0,h1,_⟩ := line_ok op
 obtain ⟨r,hr⟩ : ∃ r,r = lineL op := ⟨_,rfl⟩
 have H := fun W => hid (line_says op W)
 have HF := run_imm r
 rw [← hr] at H h0 h1 ⊢
 clear hr
 obtain ⟨v,hv⟩ : ∃ v,v = lnV r := ⟨_,rfl⟩
 rw [← hv] at H HF
 clear hv
 go_enter Tryz.func152,Tryz.ntmps152
 go_wp2_with (go_at_call 215; refine (H _).out.mono ?_; rintro e w1 ⟨rfl,hb⟩)
 go_ret
 exact ⟨rfl,hb⟩
end Go.Proofs.YtjgeedgphcjhoaaGreat
namespace Go.Proofs.YtjgeedgphcjhoaaGreat
open Go.RowKit
def CA (g : Nat) (cs : Array Value) (T : TypeId) (W : World) : Prop := W.heap[g]? = some (.cells cs T (0,0))
theorem CA.lt {g : Nat} {cs : Array Value} {T : TypeId} {W : World} (h : CA g cs T W) : g < W.heap.size := (Array.getElem?_eq_some_iff.1 h).1
theorem CA.new (w : World) (cs : Array Value) (T : TypeId) : CA w.heap.size cs T (w.alloc (.cells cs T)) := by
 show (w.heap.push _)[w.heap.size]? = _
 simp
theorem CA.at {g k : Nat} {cs : Array Value} {T : TypeId} {W : World} {v : Value} (h : CA g cs T W) (hk : cs[k]? = some v) : W.cell? ⟨g,k,none⟩ = some v := by
 unfold CA at h
 rw [World.cell?,h]
 simp [hk]
theorem ca9 {g : Nat} {T : TypeId} {W : World} {v0 v1 v2 v3 v4 v5 v6 v7 v8 : Value} (h : CA g #[v0, v1, v2, v3, v4, v5, v6, v7, v8] T W) : W.cell? ⟨g, 0, none⟩ = some v0 ∧ W.cell? ⟨g, 1, none⟩ = some v1 ∧ W.cell? ⟨g, 2, none⟩ = some v2 ∧ W.cell? ⟨g, 3, none⟩ = some v3 ∧ W.cell? ⟨g, 4, none⟩ = some v4 ∧ W.cell? ⟨g, 5, none⟩ = some v5 ∧ W.cell? ⟨g, 6, none⟩ = some v6 ∧ W.cell? ⟨g, 7, none⟩ = some v7 ∧ W.cell? ⟨g, 8, none⟩ = some v8 := ⟨h.at rfl, h.at rfl, h.at rfl, h.at rfl, h.at rfl, h.at rfl, h.at rfl, h.at rfl, h.at rfl⟩
theorem ca11 {g : Nat} {T : TypeId} {W : World} {v0 v1 v2 v3 v4 v5 v6 v7 v8 v9 v10 : Value} (h : CA g #[v0, v1, v2, v3, v4, v5, v6, v7, v8, v9, v10] T W) : W.cell? ⟨g, 0, none⟩ = some v0 ∧ W.cell? ⟨g, 1, none⟩ = some v1 ∧ W.cell? ⟨g, 2, none⟩ = some v2 ∧ W.cell? ⟨g, 3, none⟩ = some v3 ∧ W.cell? ⟨g, 4, none⟩ = some v4 ∧ W.cell? ⟨g, 5, none⟩ = some v5 ∧ W.cell? ⟨g, 6, none⟩ = some v6 ∧ W.cell? ⟨g, 7, none⟩ = some v7 ∧ W.cell? ⟨g, 8, none⟩ = some v8 ∧ W.cell? ⟨g, 9, none⟩ = some v9 ∧ W.cell? ⟨g, 10, none⟩ = some v10 := ⟨h.at rfl, h.at rfl, h.at rfl, h.at rfl, h.at rfl, h.at rfl, h.at rfl, h.at rfl, h.at rfl, h.at rfl, h.at rfl⟩
theorem ca13 {g : Nat} {T : TypeId} {W : World} {v0 v1 v2 v3 v4 v5 v6 v7 v8 v9 v10 v11 v12 : Value} (h : CA g #[v0, v1, v2, v3, v4, v5, v6, v7, v8, v9, v10, v11, v12] T W) : W.cell? ⟨g, 0, none⟩ = some v0 ∧ W.cell? ⟨g, 1, none⟩ = some v1 ∧ W.cell? ⟨g, 2, none⟩ = some v2 ∧ W.cell? ⟨g, 3, none⟩ = some v3 ∧ W.cell? ⟨g, 4, none⟩ = some v4 ∧ W.cell? ⟨g, 5, none⟩ = some v5 ∧ W.cell? ⟨g, 6, none⟩ = some v6 ∧ W.cell? ⟨g, 7, none⟩ = some v7 ∧ W.cell? ⟨g, 8, none⟩ = some v8 ∧ W.cell? ⟨g, 9, none⟩ = some v9 ∧ W.cell? ⟨g, 10, none⟩ = some v10 ∧ W.cell? ⟨g, 11, none⟩ = some v11 ∧ W.cell? ⟨g, 12, none⟩ = some v12 := ⟨h.at rfl, h.at rfl, h.at rfl, h.at rfl, h.at rfl, h.at rfl, h.at rfl, h.at rfl, h.at rfl, h.at rfl, h.at rfl, h.at rfl, h.at rfl⟩
theorem CA.free {g : Nat} {cs : Array Value} {T : TypeId} {W : World} (h : CA g cs T W) (k : Nat) : W.frozen? ⟨g,k,none⟩ = false := by
 unfold CA at h
 rw [World.frozen?,h]
 simp
theorem CA.set {g k : Nat} {cs : Array Value} {T : TypeId} {W : World} (h : CA g cs T W) (v : Value) : CA g (cs.setIfInBounds k v) T (W.setCell ⟨g,k,none⟩ v) := by
 unfold CA at h ⊢
 rw [World.setCell,Array.getElem?_modify,if_pos rfl,h]
 rfl
theorem CA.below {g B : Nat} {cs : Array Value} {T : TypeId} {W W' : World} (h : CA g cs T W) (hb : Below B W W') (hg : g < B) : CA g cs T W' := by
 unfold CA at h ⊢
 rw [hb.block g hg,h]
theorem CA.alloc {g : Nat} {cs : Array Value} {T : TypeId} {W : World} (h : CA g cs T W) (o : Obj) : CA g cs T (W.alloc o) := h.below ((Below.refl _ _).alloc (Nat.le_refl _) o) h.lt
theorem size_al (w : World) (o : Obj) : (w.alloc o).heap.size = w.heap.size + 1 := by simp
structure KP (c : Option Nat) (w w' : World) : Prop where
 os : w'.os = w.os
 tape : w'.tape = w.tape
 output : w'.output = w.output
 size : w.heap.size ≤ w'.heap.size
 block : ∀ k,k < w.heap.size → c ≠ some k → w'.heap[k]? = w.heap[k]?
theorem KP.refl (c : Option Nat) (w : World) : KP c w w := ⟨rfl,rfl,rfl,Nat.le_refl _,fun _ _ _ => rfl⟩
theorem KP.trans {c : Option Nat} {a b w : World} (h : KP c a b) (k : KP c b w) : KP c a w :=
 ⟨k.os.trans h.os,k.tape.trans h.tape,k.output.trans h.output,Nat.le_trans h.size k.size,fun i hi hc => (k.block i (Nat.lt_of_lt_of_le hi h.size) hc).trans (h.block i hi hc)⟩
theorem KP.of {c : Option Nat} {w w' : World} (h : Below w.heap.size w w') : KP c w w' := ⟨h.os,h.tape,h.output,h.size,fun k hk _ => h.block k hk⟩
theorem KP.pure {w w' : World} (h : KP none w w') : Below w.heap.size w w' := ⟨h.os,h.tape,h.output,h.size,fun k hk => h.block k hk (by simp)⟩
theorem KP.alloc {c : Option Nat} {a w : World} (h : KP c a w) (o : Obj) : KP c a (w.alloc o) := h.trans (KP.of ((Below.refl _ _).alloc (Nat.le_refl _) o))
theorem KP.below {c : Option Nat} {w w' : World} {B : Nat} (h : KP c w w') (hB : B ≤ w.heap.size) (hc : ∀ k,c = some k → B ≤ k) : Below B w w' :=
 ⟨h.os,h.tape,h.output,h.size,fun k hk => h.block k (by omega) (fun e => by have := hc k e; omega)⟩
theorem CA.keep {g : Nat} {cs : Array Value} {T : TypeId} {W W' : World} {c : Option Nat} (h : CA g cs T W) (hb : KP c W W') (hg : c ≠ some g) : CA g cs T W' := by
 have hl := h.lt
 unfold CA at h ⊢
 rw [hb.block g hl hg,h]
inductive Fo where
 | nil : Fo
 | cons (op a b : Int) (n h : Nat) (l : List Int) (ot : Bool) (body els rest : Fo) : Fo
def Fo.len : Fo → Nat
 | .nil => 0
 | .cons _ _ _ _ _ _ _ _ _ r => r.len + 1
def Fo.cnt : Fo → Nat
 | .nil => 0
 | .cons _ _ _ _ _ _ _ b e r => b.cnt + e.cnt + r.cnt + 1
def Fo.nst : Fo → Nat
 | .nil => 0
 | .cons _ _ _ _ _ _ _ b e r => max (max b.nst e.nst + 1) r.nst
def LI (B : Nat) (w : World) (v : Value) (l : List Int) : Prop := ∃ p c,v = .slice p l.length c ∧ l.length < 9223372036854775807 ∧ (l ≠ [] → ∃ g o,p = some ⟨g,o,none⟩ ∧ g < B ∧ ∀ j x,l[j]? = some x → w.cell? ⟨g,o + j,none⟩ = some (.int .i64 x))
theorem LI.below {B : Nat} {w w' : World} {v : Value} {l : List Int} (h : LI B w v l) (hb : Below B w w') : LI B w' v l := by
 obtain ⟨p,c,rfl,hq,h⟩ := h
 refine ⟨p,c,rfl,hq,fun hn => ?_⟩
 obtain ⟨g,o,rfl,hg,hc⟩ := h hn
 exact ⟨g,o,rfl,hg,fun j x hj => by rw [hb.cell (p := ⟨g,o + j,none⟩) hg]; exact hc j x hj⟩
theorem LI.mono {B B' : Nat} {w : World} {v : Value} {l : List Int} (h : LI B w v l) (hb : B ≤ B') : LI B' w v l := by
 obtain ⟨p,c,rfl,hq,h⟩ := h
 refine ⟨p,c,rfl,hq,fun hn => ?_⟩
 obtain ⟨g,o,rfl,hg,hc⟩ := h hn
 exact ⟨g,o,rfl,Nat.lt_of_lt_of_le hg hb,hc⟩
def FA (B : Nat) (w : World) : Fo → Nat → Nat → Prop
 | .nil,_,_ => True
 | .cons op a b n h l ot body els rest,g,o => g < B ∧ (∃ vl vb ve,
   w.cell? ⟨g,o,none⟩ = some (.int .i64 op) ∧ w.cell? ⟨g,o + 1,none⟩ = some (.int .i64 a) ∧ w.cell? ⟨g,o + 2,none⟩ = some (.int .i64 b) ∧
   w.cell? ⟨g,o + 3,none⟩ = some (.int .u64 n) ∧ w.cell? ⟨g,o + 4,none⟩ = some (.int .u64 h) ∧ w.cell? ⟨g,o + 5,none⟩ = some vl ∧
   w.cell? ⟨g,o + 6,none⟩ = some vb ∧ w.cell? ⟨g,o + 7,none⟩ = some ve ∧ w.cell? ⟨g,o + 8,none⟩ = some (.bool ot) ∧ LI B w vl l ∧
   (∃ p c g' o',vb = .slice p body.len c ∧ (body.len ≠ 0 → p = some ⟨g',o',none⟩) ∧ FA B w body g' o') ∧
   (∃ p c g' o',ve = .slice p els.len c ∧ (els.len ≠ 0 → p = some ⟨g',o',none⟩) ∧ FA B w els g' o')) ∧ FA B w rest g (o + 9)
def SA (B : Nat) (w : World) (v : Value) (f : Fo) : Prop := ∃ p c g' o',v = .slice p f.len c ∧ (f.len ≠ 0 → p = some ⟨g',o',none⟩) ∧ FA B w f g' o'
theorem FA.below {B : Nat} {w w' : World} (hb : Below B w w') : ∀ (f : Fo) (g o : Nat),FA B w f g o → FA B w' f g o := by
 intro f
 induction f with
 | nil => intro g o h; trivial
 | cons op a b n h l ot body els rest ihb ihe ihr =>
  rintro g o ⟨hg,⟨vl,vb,ve,h0,h1,h2,h3,h4,h5,h6,h7,h8,hl,⟨p,c,g',o',e1,e2,e3⟩,⟨p2,c2,g2,o2,f1,f2,f3⟩⟩,hr⟩
  have hc : ∀ k,w'.cell? ⟨g,k,none⟩ = w.cell? ⟨g,k,none⟩ := fun k => hb.cell (p := ⟨g,k,none⟩) hg
  exact ⟨hg,⟨vl,vb,ve,by rw [hc,h0],by rw [hc,h1],by rw [hc,h2],by rw [hc,h3],by rw [hc,h4],by rw [hc,h5],by rw [hc,h6],by rw [hc,h7],by rw [hc,h8],hl.below hb,⟨p,c,g',o',e1,e2,ihb _ _ e3⟩,⟨p2,c2,g2,o2,f1,f2,ihe _ _ f3⟩⟩,ihr _ _ hr⟩
theorem FA.mono {B B' : Nat} {w : World} (hb : B ≤ B') : ∀ (f : Fo) (g o : Nat),FA B w f g o → FA B' w f g o := by
 intro f
 induction f with
 | nil => intro g o h; trivial
 | cons op a b n h l ot body els rest ihb ihe ihr =>
  rintro g o ⟨hg,⟨vl,vb,ve,h0,h1,h2,h3,h4,h5,h6,h7,h8,hl,⟨p,c,g',o',e1,e2,e3⟩,⟨p2,c2,g2,o2,f1,f2,f3⟩⟩,hr⟩
  exact ⟨Nat.lt_of_lt_of_le hg hb,⟨vl,vb,ve,h0,h1,h2,h3,h4,h5,h6,h7,h8,hl.mono hb,⟨p,c,g',o',e1,e2,ihb _ _ e3⟩,⟨p2,c2,g2,o2,f1,f2,ihe _ _ f3⟩⟩,ihr _ _ hr⟩
theorem SA.below {B : Nat} {w w' : World} {v : Value} {f : Fo} (h : SA B w v f) (hb : Below B w w') : SA B w' v f := by
 obtain ⟨p,c,g,o,e1,e2,e3⟩ := h
 exact ⟨p,c,g,o,e1,e2,FA.below hb _ _ _ e3⟩
theorem SA.mono {B B' : Nat} {w : World} {v : Value} {f : Fo} (h : SA B w v f) (hb : B ≤ B') : SA B' w v f := by
 obtain ⟨p,c,g,o,e1,e2,e3⟩ := h
 exact ⟨p,c,g,o,e1,e2,FA.mono hb _ _ _ e3⟩
theorem SA.nil (B : Nat) (w : World) (p : Option Addr) (c : Nat) : SA B w (.slice p 0 c) .nil := ⟨p,c,0,0,rfl,fun h => absurd rfl h,trivial⟩
theorem LI.nil (B : Nat) (w : World) (p : Option Addr) (c : Nat) : LI B w (.slice p 0 c) [] := ⟨p,c,rfl,by decide,fun h => absurd rfl h⟩
def evF {σ : Type} (st : σ → Int → Int → Int → Int → Nat → Nat → List Int → Bool → Fo → Fo → Bool × σ) : Fo → Int → σ → Bool × σ
 | .nil,_,s => (true,s)
 | .cons op a b n h l ot body els rest,d,s =>
  if (st s d op a b n h l ot body els).1 = true then
   if (evF st body (d + 1) (st s d op a b n h l ot body els).2).1 = true then
    if (evF st els (d + 1) (evF st body (d + 1) (st s d op a b n h l ot body els).2).2).1 = true then
     evF st rest d (evF st els (d + 1) (evF st body (d + 1) (st s d op a b n h l ot body els).2).2).2
    else (false,(evF st els (d + 1) (evF st body (d + 1) (st s d op a b n h l ot body els).2).2).2)
   else (false,(evF st body (d + 1) (st s d op a b n h l ot body els).2).2)
  else (false,(st s d op a b n h l ot body els).2)
end Go.Proofs.YtjgeedgphcjhoaaGreat
namespace Go.Proofs.YtjgeedgphcjhoaaGreat
open Go.RowKit
def byI (n : Int) : UInt8 := (n % 256).toNat.toUInt8
def uI (n : Int) : List UInt8 := ulist (n % 18446744073709551616).toNat
def lowL : Nat → Nat → List UInt8
 | 0,_ => []
 | k + 1,v => (v % 256).toUInt8 :: lowL k (v / 256)
def opL (op : Int) : List UInt8 := if 64768 ≤ op then 253 :: uI (op - 64768) else if 64512 ≤ op then 252 :: uI (op - 64512) else [byI op]
def sgnN (b : Nat) (n : Nat) : Int := if n % 2 ^ b < 2 ^ (b - 1) then ((n % 2 ^ b : Nat) : Int) else ((n % 2 ^ b : Nat) : Int) - ((2 ^ b : Nat) : Int)
def blL (a b : Int) : List UInt8 := if a = 1 then [byI b] else if a = 2 then slist b else [64]
def usL : List Int → List UInt8
 | [] => []
 | x :: l => uI x ++ usL l
def behL (k a b : Int) (n h : Nat) (l : List Int) (ot : Bool) (eb ee : List UInt8) : List UInt8 :=
 if k = 0 then []
 else if k = 1 then blL a b ++ eb ++ (if ot = true then 5 :: ee else []) ++ [11]
 else if k = 3 then uI l.length ++ usL l ++ uI a
 else if k = 5 ∨ k = 10 ∨ k = 20 ∨ k = 22 then uI a ++ uI b
 else if k = 26 then uI a ++ uI b ++ l.map byI
 else if k = 6 then uI l.length ++ l.map byI
 else if k = 11 then [0]
 else if k = 19 then [0,0]
 else if k = 17 then uI a ++ [0]
 else if k = 12 then slist (sgnN 32 n)
 else if k = 13 then slist (sgnN 64 n)
 else if k = 14 then lowL 4 n
 else if k = 15 then lowL 8 n
 else if k = 23 then lowL 8 n ++ lowL 8 h
 else if k = 16 ∨ k = 25 then [byI a]
 else if k = 24 then l.map byI
 else uI a
noncomputable def Fo.enc : Fo → List UInt8
 | .nil => []
 | .cons op a b n h l ot body els rest => opL op ++ behL (lineL op).2.1 a b n h l ot body.enc els.enc ++ rest.enc
theorem uI_len (n : Int) : (uI n).length ≤ 10 := ulist_length64 (by omega)
theorem lowL_len (v : Nat) : ∀ (k : Nat) (v : Nat),(lowL k v).length = k
 | 0,_ => rfl
 | k + 1,v => by rw [lowL,List.length_cons,lowL_len v k]
theorem usL_len : ∀ l : List Int,(usL l).length ≤ 10 * l.length
 | [] => Nat.le_refl _
 | x :: l => by
  have := usL_len l
  have := uI_len x
  simp only [usL,List.length_append,List.length_cons]
  omega
theorem opL_len (op : Int) : (opL op).length ≤ 11 := by
 unfold opL
 have h1 := uI_len (op - 64768)
 have h2 := uI_len (op - 64512)
 split
 ·simp only [List.length_cons]; omega
 split
 ·simp only [List.length_cons]; omega
 simp
theorem sgnN_in (b n : Nat) (hb : b = 32 ∨ b = 64) : -9223372036854775808 ≤ sgnN b n ∧ sgnN b n ≤ 9223372036854775807 := by
 unfold sgnN
 rcases hb with rfl | rfl
 ·split <;> omega
 split <;> omega
theorem slist_len (x : Int) (h : -9223372036854775808 ≤ x ∧ x ≤ 9223372036854775807) : (slist x).length ≤ 10 := slist_length64 h.1 h.2
def i64C (a : Int) : Prop := -9223372036854775808 ≤ a ∧ a < 9223372036854775808
theorem ite_len {c : Prop} [Decidable c] {x y : List UInt8} {n : Nat} (hx : c → x.length ≤ n) (hy : ¬ c → y.length ≤ n) : (if c then x else y).length ≤ n := by
 by_cases h : c
 ·rw [if_pos h]; exact hx h
 rw [if_neg h]; exact hy h
theorem behL_len (k a b : Int) (n h : Nat) (l : List Int) (ot : Bool) (eb ee : List UInt8) (hb : i64C b) : (behL k a b n h l ot eb ee).length ≤ 40 + 10 * l.length + eb.length + ee.length := by
 have h1 := uI_len a
 have h2 := uI_len b
 have h3 := uI_len l.length
 have h4 := usL_len l
 have h5 : (l.map byI).length = l.length := List.length_map _
 have h6 := slist_len _ (sgnN_in 32 n (.inl rfl))
 have h7 := slist_len _ (sgnN_in 64 n (.inr rfl))
 have h8 := lowL_len 0 4 n
 have h9 := lowL_len 0 8 n
 have h10 := lowL_len 0 8 h
 have h11 := slist_len b ⟨hb.1,by have := hb.2; omega⟩
 have h12 : (blL a b).length ≤ 10 := by
  unfold blL
  split
  ·simp
  split
  ·exact h11
  simp
 have h13 : (if ot = true then 5 :: ee else []).length ≤ ee.length + 1 := ite_len (fun _ => by simp) (fun _ => by simp)
 unfold behL
 repeat' (refine ite_len (fun _ => ?_) (fun _ => ?_))
 all_goals try simp only [List.length_append,List.length_cons,List.length_nil]
 all_goals omega
end Go.Proofs.YtjgeedgphcjhoaaGreat
