/-
  LCDone: merged, what the law does not reach left out (each text says what it holds where it lies in wip). No condition.
-/
import Derived.Test.YtlhakbkdlgejpaaGreatDoorH14
import Derived.Test.YtlhakbkdlgejpaaGreatDoorH11
import Derived.Test.YtlhakbkdlgejpaaGreatDoorH13
import Derived.Test.YtlhakbkdlgejpaaGreatDoorH07
import Derived.Test.YtlhakbkdlgejpaaGreatDoorH18
set_option linter.unusedSimpArgs false
set_option linter.unusedVariables false
set_option maxRecDepth 100000
namespace Go.Proofs.YtlhakbkdlgejpaaGreatDoor
open Go.RowKit
set_option maxHeartbeats 4000000 in
theorem Do_num125 (op : Int) (nm : List UInt8) (hnm : (lineL op).1 = str nm) (vb : List UInt8) (ff : Bool) (fb : Int) (tf : Bool) (n : Int) (sg : Bool) (hpar : parV nm = insV vb ff fb tf n sg) (hn1 : nm.length ≤ 1000) (hok : ((xsL nm).2 == 0) = false → 0 ≤ laL6 nm) (hlb : lbL op = [125])
    (vi va : Value) (w : World) (hg : Glob w) (Hfit : ∀ W, Below w.heap.size w W → Calls Tryz.prog 30 #[.int .i64 op, vi, va] W fun e w' => e = .returned (.bool true) ∧ Below W.heap.size W w')
    (r : Nat) (hr : r < 18446744073709551616) (Hnum : ∀ W, Below w.heap.size w W → Calls Tryz.prog 36 #[insV vb ff fb tf n sg, vi, va] W fun e w' => e = .returned (.int .u64 (r : Nat)) ∧ Below W.heap.size W w') :
    Calls Tryz.prog 20 #[.int .i64 op, vi, va] w fun e w' => e = .returned (.tuple #[vv 125 r 0 false, .int .i64 0]) ∧ Below w.heap.size w w' := by
  have HFI := fun W h => hid (Hfit W h)
  have HN := fun W => hid (Name_says op W)
  rw [hnm] at HN
  have HP := fun W => hid (parsed_says nm hn1 hok W)
  rw [hpar] at HP
  have HSG := fun W (h : Glob W) => hid (Sign_any op W h)
  rw [hlb] at HSG
  have HV := fun W h => hid (Hnum W h)
  have HGL := hid hg
  unfold insV at HP HV
  unfold vv
  generalize laL op = la at *
  generalize fxB (lineL op) = fx at *
  generalize str nm = s at *
  generalize str vb = s2 at *
  clear hnm hpar hn1 hok hlb hg Hfit Hnum
  go_enter Tryz.func20, Tryz.ntmps20
  go_upto_region 5 with (first
    | (go_at_call 30; refine (HFI _ ((Below.refl _ w).alloc (Nat.le_refl _) _)).out.mono ?_; rintro e w1 ⟨rfl, hb1⟩; have HR1 := hid (below_new hb1); clear hb1)
    | (go_at_call 32; refine (HN _).out.mono ?_; rintro e w2 ⟨rfl, hb2⟩; have HR2 := hid (And.intro (HR1.out.1.call hb2) (HR1.out.2.trans (hb2.mono HR1.out.2.size))); clear hb2)
    | (go_at_call 31; refine (HP _).out.mono ?_; rintro e w3 ⟨rfl, hb3⟩; have HR3 := hid (And.intro (HR2.out.1.call hb3) (HR2.out.2.trans (hb3.mono HR2.out.2.size))); clear hb3)
    | (go_at_call 33; refine (HSG _ (HGL.out.next (HR3.out.2.alloc HR3.out.2.size _))).out.mono ?_; rintro e w5 ⟨v1, v2, B2, rfl, ho1, ho2, hB2, hsep, hb⟩; have HL := hid ho2; have HJB := hid (Nat.lt_of_lt_of_le (HR3.out.1.alloc _).lt hB2); have HN5 := hid (below_new hb); clear hb ho1 ho2 hB2 hsep))
  obtain ⟨gt, ct, rfl⟩ : ∃ g cap, v2 = .slice (some ⟨g, 0, none⟩) 1 cap := owned_at HL.out (Nat.le_refl _)
  have hgtne : gt ≠ w.heap.size := Nat.ne_of_gt (Nat.lt_of_lt_of_le HJB.out (HL.out.lt gt rfl).1)
  have k0 : w5.cell? ⟨gt, 0, none⟩ = some (.int .i64 125) := HL.out.cellAt 0 (by decide)
  have hX : CA w3.heap.size #[.string s2, .bool ff, .int .i64 fb, .bool tf, .int .i64 n, .bool sg] 50 w5 := HN5.out.1
  have hR : CA w.heap.size #[.int .i64 0, .int .u64 0, .int .u64 0, .bool false] 24 w5 := HR3.out.1.call HN5.out.2
  have hB : Below w.heap.size w w5 := HR3.out.2.trans (HN5.out.2.mono HR3.out.2.size)
  have hne : w.heap.size ≠ w3.heap.size := Nat.ne_of_lt HR3.out.1.lt
  generalize w3.heap.size = g8 at *
  clear HN5 HR3 HR2 HR1 HL HSG HP HN HFI
  have hngt : gt ≠ w.heap.size := hgtne
  go_upto_region 10 with fail
  have hS : Below w.heap.size w w5.drew ∧ CA g8 #[.string s2, .bool ff, .int .i64 fb, .bool tf, .int .i64 n, .bool sg] 50 w5.drew ∧ w5.drew.cell? ⟨gt, 0, none⟩ = some (.int .i64 125) := ⟨hB.drew, hX.drew, k0⟩
  have HJW : CA w.heap.size #[.int .i64 0, .int .u64 0, .int .u64 0, .bool false] 24 w5.drew := hR.drew
  clear k0 hX hR hB
  refine wp_region_held_drew (S := fun W => Below w.heap.size w W ∧ CA g8 #[.string s2, .bool ff, .int .i64 fb, .bool tf, .int .i64 n, .bool sg] 50 W ∧ W.cell? ⟨gt, 0, none⟩ = some (.int .i64 125)) (by kernel_rfl) hS (fun _ => ?_)
  generalize w5.drew = W at *
  refine wpAnyH_take (oi := ⟨_, _, _, _, _, _⟩) (i := 0) (v := .slice (some ⟨gt, 0, none⟩) 1 ct) rfl (by kernel_rfl) (by kernel_rfl) (by kernel_rfl) (fun _ _ _ h => h) (Or.inl ⟨by rfl, ?_⟩) (by assumption) ?_
  · (intro W hSw; have x0 := hSw.2.1.at (k := 0) (v := .string s2) rfl; have x1 := hSw.2.1.at (k := 1) (v := .bool ff) rfl; have x2 := hSw.2.1.at (k := 2) (v := .int .i64 fb) rfl; have x3 := hSw.2.1.at (k := 3) (v := .bool tf) rfl; have x4 := hSw.2.1.at (k := 4) (v := .int .i64 n) rfl; have x5 := hSw.2.1.at (k := 5) (v := .bool sg) rfl; have y0 := hSw.2.2; go_simp; try (with_reducible rfl))
  try simp only [Act.put, List.setIfInBounds_toArray, List.set_cons_zero, List.set_cons_succ]
  refine wpAnyH_take (oi := ⟨_, _, _, _, _, _⟩) (i := 1) (v := .pointer (some ⟨gt, 0, none⟩)) rfl (by kernel_rfl) (by kernel_rfl) (by kernel_rfl) (fun _ _ _ h => h) (Or.inl ⟨by rfl, ?_⟩) (by assumption) ?_
  · (intro W hSw; have x0 := hSw.2.1.at (k := 0) (v := .string s2) rfl; have x1 := hSw.2.1.at (k := 1) (v := .bool ff) rfl; have x2 := hSw.2.1.at (k := 2) (v := .int .i64 fb) rfl; have x3 := hSw.2.1.at (k := 3) (v := .bool tf) rfl; have x4 := hSw.2.1.at (k := 4) (v := .int .i64 n) rfl; have x5 := hSw.2.1.at (k := 5) (v := .bool sg) rfl; have y0 := hSw.2.2; go_simp; try (with_reducible rfl))
  try simp only [Act.put, List.setIfInBounds_toArray, List.set_cons_zero, List.set_cons_succ]
  refine wpAnyH_take (oi := ⟨_, _, _, _, _, _⟩) (i := 2) (v := .int .i64 125) rfl (by kernel_rfl) (by kernel_rfl) (by kernel_rfl) (fun _ _ _ h => h) (Or.inl ⟨by rfl, ?_⟩) (by assumption) ?_
  · (intro W hSw; have x0 := hSw.2.1.at (k := 0) (v := .string s2) rfl; have x1 := hSw.2.1.at (k := 1) (v := .bool ff) rfl; have x2 := hSw.2.1.at (k := 2) (v := .int .i64 fb) rfl; have x3 := hSw.2.1.at (k := 3) (v := .bool tf) rfl; have x4 := hSw.2.1.at (k := 4) (v := .int .i64 n) rfl; have x5 := hSw.2.1.at (k := 5) (v := .bool sg) rfl; have y0 := hSw.2.2; go_simp; try (with_reducible rfl))
  try simp only [Act.put, List.setIfInBounds_toArray, List.set_cons_zero, List.set_cons_succ]
  refine wpAnyH_take (oi := ⟨_, _, _, _, _, _⟩) (i := 3) (v := .agg #[.string s2, .bool ff, .int .i64 fb, .bool tf, .int .i64 n, .bool sg]) rfl (by kernel_rfl) (by kernel_rfl) (by kernel_rfl) (fun _ _ _ h => h) (Or.inl ⟨by rfl, ?_⟩) (by assumption) ?_
  · (intro W hSw; have x0 := hSw.2.1.at (k := 0) (v := .string s2) rfl; have x1 := hSw.2.1.at (k := 1) (v := .bool ff) rfl; have x2 := hSw.2.1.at (k := 2) (v := .int .i64 fb) rfl; have x3 := hSw.2.1.at (k := 3) (v := .bool tf) rfl; have x4 := hSw.2.1.at (k := 4) (v := .int .i64 n) rfl; have x5 := hSw.2.1.at (k := 5) (v := .bool sg) rfl; have y0 := hSw.2.2; go_simp; try (with_reducible rfl))
  try simp only [Act.put, List.setIfInBounds_toArray, List.set_cons_zero, List.set_cons_succ]
  refine wpAnyH_take (oi := ⟨_, _, _, _, _, _⟩) (i := 4) (v := vi) rfl (by kernel_rfl) (by kernel_rfl) (by kernel_rfl) (fun _ _ _ h => h) (Or.inl ⟨by rfl, ?_⟩) (by assumption) ?_
  · (intro W hSw; have x0 := hSw.2.1.at (k := 0) (v := .string s2) rfl; have x1 := hSw.2.1.at (k := 1) (v := .bool ff) rfl; have x2 := hSw.2.1.at (k := 2) (v := .int .i64 fb) rfl; have x3 := hSw.2.1.at (k := 3) (v := .bool tf) rfl; have x4 := hSw.2.1.at (k := 4) (v := .int .i64 n) rfl; have x5 := hSw.2.1.at (k := 5) (v := .bool sg) rfl; have y0 := hSw.2.2; go_simp; try (with_reducible rfl))
  try simp only [Act.put, List.setIfInBounds_toArray, List.set_cons_zero, List.set_cons_succ]
  refine wpAnyH_take (oi := ⟨_, _, _, _, _, _⟩) (i := 5) (v := va) rfl (by kernel_rfl) (by kernel_rfl) (by kernel_rfl) (fun _ _ _ h => h) (Or.inl ⟨by rfl, ?_⟩) (by assumption) ?_
  · (intro W hSw; have x0 := hSw.2.1.at (k := 0) (v := .string s2) rfl; have x1 := hSw.2.1.at (k := 1) (v := .bool ff) rfl; have x2 := hSw.2.1.at (k := 2) (v := .int .i64 fb) rfl; have x3 := hSw.2.1.at (k := 3) (v := .bool tf) rfl; have x4 := hSw.2.1.at (k := 4) (v := .int .i64 n) rfl; have x5 := hSw.2.1.at (k := 5) (v := .bool sg) rfl; have y0 := hSw.2.2; go_simp; try (with_reducible rfl))
  try simp only [Act.put, List.setIfInBounds_toArray, List.set_cons_zero, List.set_cons_succ]
  refine wpAnyH_ready (rs := [6]) (by kernel_rfl) (by simp) ?_
  refine AllReadyH.cons (o := ⟨_, _, _, _, _, _⟩) rfl (fun K hK => ?_) ?_
  · go_simp
    go_at_call 36
    (with_reducible refine (HV _ hS.1).out.mono ?_)
    rintro e W1 ⟨rfl, hb⟩
    replace hS := And.intro (hS.1.trans (hb.mono hS.1.size)) (And.intro (hS.2.1.call hb) ((hb.cell (p := ⟨gt, 0, none⟩) (World.block_lt_of_cell? _ _ hS.2.2)).trans hS.2.2))
    replace HJW := HJW.call hb
    clear hb
    refine hK.out _ _ hS (fun _ => ?_)
    clear hK K
    try simp only [Act.put, List.setIfInBounds_toArray, List.set_cons_zero, List.set_cons_succ]
    refine wpAnyH_take (oi := ⟨_, _, _, _, _, _⟩) (i := 7) (v := .agg #[.int .i64 125, .int .u64 (r : Nat), .int .u64 0, .bool false]) rfl (by kernel_rfl) (by kernel_rfl) (by kernel_rfl) (fun _ _ _ h => h) (Or.inl ⟨by rfl, ?_⟩) (by assumption) ?_
    · (intro W hSw; have x0 := hSw.2.1.at (k := 0) (v := .string s2) rfl; have x1 := hSw.2.1.at (k := 1) (v := .bool ff) rfl; have x2 := hSw.2.1.at (k := 2) (v := .int .i64 fb) rfl; have x3 := hSw.2.1.at (k := 3) (v := .bool tf) rfl; have x4 := hSw.2.1.at (k := 4) (v := .int .i64 n) rfl; have x5 := hSw.2.1.at (k := 5) (v := .bool sg) rfl; have y0 := hSw.2.2; go_simp; try (with_reducible rfl))
    try simp only [Act.put, List.setIfInBounds_toArray, List.set_cons_zero, List.set_cons_succ]
    refine wpAnyH_ready (rs := [8]) (by kernel_rfl) (by simp) ?_
    refine AllReadyH.cons (o := ⟨_, _, _, _, _, _⟩) rfl (fun K hK => ?_) ?_
    · have r0 := HJW.at (k := 0) (v := .int .i64 0) rfl
      have r1 := HJW.at (k := 1) (v := .int .u64 0) rfl
      have r2 := HJW.at (k := 2) (v := .int .u64 0) rfl
      have r3 := HJW.at (k := 3) (v := .bool false) rfl
      have f0 := HJW.free 0
      have f1 := HJW.free 1
      have f2 := HJW.free 2
      have f3 := HJW.free 3
      go_simp
      clear r0 r1 r2 r3 f0 f1 f2 f3
      have hS2 := And.intro ((((hS.1.setCell (p := ⟨w.heap.size, 0, none⟩) (Nat.le_refl _) (.int .i64 125)).setCell (p := ⟨w.heap.size, 1, none⟩) (Nat.le_refl _) (.int .u64 (r : Nat))).setCell (p := ⟨w.heap.size, 2, none⟩) (Nat.le_refl _) (.int .u64 0)).setCell (p := ⟨w.heap.size, 3, none⟩) (Nat.le_refl _) (.bool false)) (And.intro ((((hS.2.1.far (o := 0) hne (.int .i64 125)).far (o := 1) hne (.int .u64 (r : Nat))).far (o := 2) hne (.int .u64 0)).far (o := 3) hne (.bool false)) (cell4 (a := .int .i64 125) (b := .int .u64 (r : Nat)) (c := .int .u64 0) (d := .bool false) hngt hS.2.2))
      have HJ2 := (((HJW.set (k := 0) (.int .i64 125)).set (k := 1) (.int .u64 (r : Nat))).set (k := 2) (.int .u64 0)).set (k := 3) (.bool false)
      clear hS HJW
      have hS := hS2
      have HJW := HJ2
      clear hS2 HJ2
      generalize (((W1.setCell ⟨w.heap.size, 0, none⟩ (.int .i64 125)).setCell ⟨w.heap.size, 1, none⟩ (.int .u64 (r : Nat))).setCell ⟨w.heap.size, 2, none⟩ (.int .u64 0)).setCell ⟨w.heap.size, 3, none⟩ (.bool false) = W3 at *
      refine hK.out _ _ hS (fun _ => ?_)
      clear hK K
      try simp only [Act.put, List.setIfInBounds_toArray, List.set_cons_zero, List.set_cons_succ]
      refine wpAnyH_take (oi := ⟨_, _, _, _, _, _⟩) (i := 9) (v := .int .i64 0) rfl (by kernel_rfl) (by kernel_rfl) (by kernel_rfl) (fun _ _ _ h => h) (Or.inl ⟨by rfl, ?_⟩) (by assumption) ?_
      · (intro W hSw; have x0 := hSw.2.1.at (k := 0) (v := .string s2) rfl; have x1 := hSw.2.1.at (k := 1) (v := .bool ff) rfl; have x2 := hSw.2.1.at (k := 2) (v := .int .i64 fb) rfl; have x3 := hSw.2.1.at (k := 3) (v := .bool tf) rfl; have x4 := hSw.2.1.at (k := 4) (v := .int .i64 n) rfl; have x5 := hSw.2.1.at (k := 5) (v := .bool sg) rfl; have y0 := hSw.2.2; go_simp; try (with_reducible rfl))
      try simp only [Act.put, List.setIfInBounds_toArray, List.set_cons_zero, List.set_cons_succ]
      refine wpAnyH_done (by kernel_rfl) ?_ _
      have r0 := HJW.at (k := 0) (v := .int .i64 125) rfl
      have r1 := HJW.at (k := 1) (v := .int .u64 (r : Nat)) rfl
      have r2 := HJW.at (k := 2) (v := .int .u64 0) rfl
      have r3 := HJW.at (k := 3) (v := .bool false) rfl
      go_wp2_with fail
      exact bodyPost_ret (v := .tuple #[.agg #[.int .i64 125, .int .u64 (r : Nat), .int .u64 0, .bool false], .int .i64 0]) (by simp [results, Tryz.results20, go_sem, r0, r1, r2, r3]) rfl ⟨rfl, hS.1⟩
    exact AllReadyH.nil
  exact AllReadyH.nil
set_option maxHeartbeats 4000000 in
theorem Do_num124 (op : Int) (nm : List UInt8) (hnm : (lineL op).1 = str nm) (vb : List UInt8) (ff : Bool) (fb : Int) (tf : Bool) (n : Int) (sg : Bool) (hpar : parV nm = insV vb ff fb tf n sg) (hn1 : nm.length ≤ 1000) (hok : ((xsL nm).2 == 0) = false → 0 ≤ laL6 nm) (hlb : lbL op = [124])
    (vi va : Value) (w : World) (hg : Glob w) (Hfit : ∀ W, Below w.heap.size w W → Calls Tryz.prog 30 #[.int .i64 op, vi, va] W fun e w' => e = .returned (.bool true) ∧ Below W.heap.size W w')
    (r : Nat) (hr : r < 18446744073709551616) (Hnum : ∀ W, Below w.heap.size w W → Calls Tryz.prog 36 #[insV vb ff fb tf n sg, vi, va] W fun e w' => e = .returned (.int .u64 (r : Nat)) ∧ Below W.heap.size W w') :
    Calls Tryz.prog 20 #[.int .i64 op, vi, va] w fun e w' => e = .returned (.tuple #[vv 124 r 0 false, .int .i64 0]) ∧ Below w.heap.size w w' := by
  have HFI := fun W h => hid (Hfit W h)
  have HN := fun W => hid (Name_says op W)
  rw [hnm] at HN
  have HP := fun W => hid (parsed_says nm hn1 hok W)
  rw [hpar] at HP
  have HSG := fun W (h : Glob W) => hid (Sign_any op W h)
  rw [hlb] at HSG
  have HV := fun W h => hid (Hnum W h)
  have HGL := hid hg
  unfold insV at HP HV
  unfold vv
  generalize laL op = la at *
  generalize fxB (lineL op) = fx at *
  generalize str nm = s at *
  generalize str vb = s2 at *
  clear hnm hpar hn1 hok hlb hg Hfit Hnum
  go_enter Tryz.func20, Tryz.ntmps20
  go_upto_region 5 with (first
    | (go_at_call 30; refine (HFI _ ((Below.refl _ w).alloc (Nat.le_refl _) _)).out.mono ?_; rintro e w1 ⟨rfl, hb1⟩; have HR1 := hid (below_new hb1); clear hb1)
    | (go_at_call 32; refine (HN _).out.mono ?_; rintro e w2 ⟨rfl, hb2⟩; have HR2 := hid (And.intro (HR1.out.1.call hb2) (HR1.out.2.trans (hb2.mono HR1.out.2.size))); clear hb2)
    | (go_at_call 31; refine (HP _).out.mono ?_; rintro e w3 ⟨rfl, hb3⟩; have HR3 := hid (And.intro (HR2.out.1.call hb3) (HR2.out.2.trans (hb3.mono HR2.out.2.size))); clear hb3)
    | (go_at_call 33; refine (HSG _ (HGL.out.next (HR3.out.2.alloc HR3.out.2.size _))).out.mono ?_; rintro e w5 ⟨v1, v2, B2, rfl, ho1, ho2, hB2, hsep, hb⟩; have HL := hid ho2; have HJB := hid (Nat.lt_of_lt_of_le (HR3.out.1.alloc _).lt hB2); have HN5 := hid (below_new hb); clear hb ho1 ho2 hB2 hsep))
  obtain ⟨gt, ct, rfl⟩ : ∃ g cap, v2 = .slice (some ⟨g, 0, none⟩) 1 cap := owned_at HL.out (Nat.le_refl _)
  have hgtne : gt ≠ w.heap.size := Nat.ne_of_gt (Nat.lt_of_lt_of_le HJB.out (HL.out.lt gt rfl).1)
  have k0 : w5.cell? ⟨gt, 0, none⟩ = some (.int .i64 124) := HL.out.cellAt 0 (by decide)
  have hX : CA w3.heap.size #[.string s2, .bool ff, .int .i64 fb, .bool tf, .int .i64 n, .bool sg] 50 w5 := HN5.out.1
  have hR : CA w.heap.size #[.int .i64 0, .int .u64 0, .int .u64 0, .bool false] 24 w5 := HR3.out.1.call HN5.out.2
  have hB : Below w.heap.size w w5 := HR3.out.2.trans (HN5.out.2.mono HR3.out.2.size)
  have hne : w.heap.size ≠ w3.heap.size := Nat.ne_of_lt HR3.out.1.lt
  generalize w3.heap.size = g8 at *
  clear HN5 HR3 HR2 HR1 HL HSG HP HN HFI
  have hngt : gt ≠ w.heap.size := hgtne
  go_upto_region 10 with fail
  have hS : Below w.heap.size w w5.drew ∧ CA g8 #[.string s2, .bool ff, .int .i64 fb, .bool tf, .int .i64 n, .bool sg] 50 w5.drew ∧ w5.drew.cell? ⟨gt, 0, none⟩ = some (.int .i64 124) := ⟨hB.drew, hX.drew, k0⟩
  have HJW : CA w.heap.size #[.int .i64 0, .int .u64 0, .int .u64 0, .bool false] 24 w5.drew := hR.drew
  clear k0 hX hR hB
  refine wp_region_held_drew (S := fun W => Below w.heap.size w W ∧ CA g8 #[.string s2, .bool ff, .int .i64 fb, .bool tf, .int .i64 n, .bool sg] 50 W ∧ W.cell? ⟨gt, 0, none⟩ = some (.int .i64 124)) (by kernel_rfl) hS (fun _ => ?_)
  generalize w5.drew = W at *
  refine wpAnyH_take (oi := ⟨_, _, _, _, _, _⟩) (i := 0) (v := .slice (some ⟨gt, 0, none⟩) 1 ct) rfl (by kernel_rfl) (by kernel_rfl) (by kernel_rfl) (fun _ _ _ h => h) (Or.inl ⟨by rfl, ?_⟩) (by assumption) ?_
  · (intro W hSw; have x0 := hSw.2.1.at (k := 0) (v := .string s2) rfl; have x1 := hSw.2.1.at (k := 1) (v := .bool ff) rfl; have x2 := hSw.2.1.at (k := 2) (v := .int .i64 fb) rfl; have x3 := hSw.2.1.at (k := 3) (v := .bool tf) rfl; have x4 := hSw.2.1.at (k := 4) (v := .int .i64 n) rfl; have x5 := hSw.2.1.at (k := 5) (v := .bool sg) rfl; have y0 := hSw.2.2; go_simp; try (with_reducible rfl))
  try simp only [Act.put, List.setIfInBounds_toArray, List.set_cons_zero, List.set_cons_succ]
  refine wpAnyH_take (oi := ⟨_, _, _, _, _, _⟩) (i := 1) (v := .pointer (some ⟨gt, 0, none⟩)) rfl (by kernel_rfl) (by kernel_rfl) (by kernel_rfl) (fun _ _ _ h => h) (Or.inl ⟨by rfl, ?_⟩) (by assumption) ?_
  · (intro W hSw; have x0 := hSw.2.1.at (k := 0) (v := .string s2) rfl; have x1 := hSw.2.1.at (k := 1) (v := .bool ff) rfl; have x2 := hSw.2.1.at (k := 2) (v := .int .i64 fb) rfl; have x3 := hSw.2.1.at (k := 3) (v := .bool tf) rfl; have x4 := hSw.2.1.at (k := 4) (v := .int .i64 n) rfl; have x5 := hSw.2.1.at (k := 5) (v := .bool sg) rfl; have y0 := hSw.2.2; go_simp; try (with_reducible rfl))
  try simp only [Act.put, List.setIfInBounds_toArray, List.set_cons_zero, List.set_cons_succ]
  refine wpAnyH_take (oi := ⟨_, _, _, _, _, _⟩) (i := 2) (v := .int .i64 124) rfl (by kernel_rfl) (by kernel_rfl) (by kernel_rfl) (fun _ _ _ h => h) (Or.inl ⟨by rfl, ?_⟩) (by assumption) ?_
  · (intro W hSw; have x0 := hSw.2.1.at (k := 0) (v := .string s2) rfl; have x1 := hSw.2.1.at (k := 1) (v := .bool ff) rfl; have x2 := hSw.2.1.at (k := 2) (v := .int .i64 fb) rfl; have x3 := hSw.2.1.at (k := 3) (v := .bool tf) rfl; have x4 := hSw.2.1.at (k := 4) (v := .int .i64 n) rfl; have x5 := hSw.2.1.at (k := 5) (v := .bool sg) rfl; have y0 := hSw.2.2; go_simp; try (with_reducible rfl))
  try simp only [Act.put, List.setIfInBounds_toArray, List.set_cons_zero, List.set_cons_succ]
  refine wpAnyH_take (oi := ⟨_, _, _, _, _, _⟩) (i := 3) (v := .agg #[.string s2, .bool ff, .int .i64 fb, .bool tf, .int .i64 n, .bool sg]) rfl (by kernel_rfl) (by kernel_rfl) (by kernel_rfl) (fun _ _ _ h => h) (Or.inl ⟨by rfl, ?_⟩) (by assumption) ?_
  · (intro W hSw; have x0 := hSw.2.1.at (k := 0) (v := .string s2) rfl; have x1 := hSw.2.1.at (k := 1) (v := .bool ff) rfl; have x2 := hSw.2.1.at (k := 2) (v := .int .i64 fb) rfl; have x3 := hSw.2.1.at (k := 3) (v := .bool tf) rfl; have x4 := hSw.2.1.at (k := 4) (v := .int .i64 n) rfl; have x5 := hSw.2.1.at (k := 5) (v := .bool sg) rfl; have y0 := hSw.2.2; go_simp; try (with_reducible rfl))
  try simp only [Act.put, List.setIfInBounds_toArray, List.set_cons_zero, List.set_cons_succ]
  refine wpAnyH_take (oi := ⟨_, _, _, _, _, _⟩) (i := 4) (v := vi) rfl (by kernel_rfl) (by kernel_rfl) (by kernel_rfl) (fun _ _ _ h => h) (Or.inl ⟨by rfl, ?_⟩) (by assumption) ?_
  · (intro W hSw; have x0 := hSw.2.1.at (k := 0) (v := .string s2) rfl; have x1 := hSw.2.1.at (k := 1) (v := .bool ff) rfl; have x2 := hSw.2.1.at (k := 2) (v := .int .i64 fb) rfl; have x3 := hSw.2.1.at (k := 3) (v := .bool tf) rfl; have x4 := hSw.2.1.at (k := 4) (v := .int .i64 n) rfl; have x5 := hSw.2.1.at (k := 5) (v := .bool sg) rfl; have y0 := hSw.2.2; go_simp; try (with_reducible rfl))
  try simp only [Act.put, List.setIfInBounds_toArray, List.set_cons_zero, List.set_cons_succ]
  refine wpAnyH_take (oi := ⟨_, _, _, _, _, _⟩) (i := 5) (v := va) rfl (by kernel_rfl) (by kernel_rfl) (by kernel_rfl) (fun _ _ _ h => h) (Or.inl ⟨by rfl, ?_⟩) (by assumption) ?_
  · (intro W hSw; have x0 := hSw.2.1.at (k := 0) (v := .string s2) rfl; have x1 := hSw.2.1.at (k := 1) (v := .bool ff) rfl; have x2 := hSw.2.1.at (k := 2) (v := .int .i64 fb) rfl; have x3 := hSw.2.1.at (k := 3) (v := .bool tf) rfl; have x4 := hSw.2.1.at (k := 4) (v := .int .i64 n) rfl; have x5 := hSw.2.1.at (k := 5) (v := .bool sg) rfl; have y0 := hSw.2.2; go_simp; try (with_reducible rfl))
  try simp only [Act.put, List.setIfInBounds_toArray, List.set_cons_zero, List.set_cons_succ]
  refine wpAnyH_ready (rs := [6]) (by kernel_rfl) (by simp) ?_
  refine AllReadyH.cons (o := ⟨_, _, _, _, _, _⟩) rfl (fun K hK => ?_) ?_
  · go_simp
    go_at_call 36
    (with_reducible refine (HV _ hS.1).out.mono ?_)
    rintro e W1 ⟨rfl, hb⟩
    replace hS := And.intro (hS.1.trans (hb.mono hS.1.size)) (And.intro (hS.2.1.call hb) ((hb.cell (p := ⟨gt, 0, none⟩) (World.block_lt_of_cell? _ _ hS.2.2)).trans hS.2.2))
    replace HJW := HJW.call hb
    clear hb
    refine hK.out _ _ hS (fun _ => ?_)
    clear hK K
    try simp only [Act.put, List.setIfInBounds_toArray, List.set_cons_zero, List.set_cons_succ]
    refine wpAnyH_take (oi := ⟨_, _, _, _, _, _⟩) (i := 7) (v := .agg #[.int .i64 124, .int .u64 (r : Nat), .int .u64 0, .bool false]) rfl (by kernel_rfl) (by kernel_rfl) (by kernel_rfl) (fun _ _ _ h => h) (Or.inl ⟨by rfl, ?_⟩) (by assumption) ?_
    · (intro W hSw; have x0 := hSw.2.1.at (k := 0) (v := .string s2) rfl; have x1 := hSw.2.1.at (k := 1) (v := .bool ff) rfl; have x2 := hSw.2.1.at (k := 2) (v := .int .i64 fb) rfl; have x3 := hSw.2.1.at (k := 3) (v := .bool tf) rfl; have x4 := hSw.2.1.at (k := 4) (v := .int .i64 n) rfl; have x5 := hSw.2.1.at (k := 5) (v := .bool sg) rfl; have y0 := hSw.2.2; go_simp; try (with_reducible rfl))
    try simp only [Act.put, List.setIfInBounds_toArray, List.set_cons_zero, List.set_cons_succ]
    refine wpAnyH_ready (rs := [8]) (by kernel_rfl) (by simp) ?_
    refine AllReadyH.cons (o := ⟨_, _, _, _, _, _⟩) rfl (fun K hK => ?_) ?_
    · have r0 := HJW.at (k := 0) (v := .int .i64 0) rfl
      have r1 := HJW.at (k := 1) (v := .int .u64 0) rfl
      have r2 := HJW.at (k := 2) (v := .int .u64 0) rfl
      have r3 := HJW.at (k := 3) (v := .bool false) rfl
      have f0 := HJW.free 0
      have f1 := HJW.free 1
      have f2 := HJW.free 2
      have f3 := HJW.free 3
      go_simp
      clear r0 r1 r2 r3 f0 f1 f2 f3
      have hS2 := And.intro ((((hS.1.setCell (p := ⟨w.heap.size, 0, none⟩) (Nat.le_refl _) (.int .i64 124)).setCell (p := ⟨w.heap.size, 1, none⟩) (Nat.le_refl _) (.int .u64 (r : Nat))).setCell (p := ⟨w.heap.size, 2, none⟩) (Nat.le_refl _) (.int .u64 0)).setCell (p := ⟨w.heap.size, 3, none⟩) (Nat.le_refl _) (.bool false)) (And.intro ((((hS.2.1.far (o := 0) hne (.int .i64 124)).far (o := 1) hne (.int .u64 (r : Nat))).far (o := 2) hne (.int .u64 0)).far (o := 3) hne (.bool false)) (cell4 (a := .int .i64 124) (b := .int .u64 (r : Nat)) (c := .int .u64 0) (d := .bool false) hngt hS.2.2))
      have HJ2 := (((HJW.set (k := 0) (.int .i64 124)).set (k := 1) (.int .u64 (r : Nat))).set (k := 2) (.int .u64 0)).set (k := 3) (.bool false)
      clear hS HJW
      have hS := hS2
      have HJW := HJ2
      clear hS2 HJ2
      generalize (((W1.setCell ⟨w.heap.size, 0, none⟩ (.int .i64 124)).setCell ⟨w.heap.size, 1, none⟩ (.int .u64 (r : Nat))).setCell ⟨w.heap.size, 2, none⟩ (.int .u64 0)).setCell ⟨w.heap.size, 3, none⟩ (.bool false) = W3 at *
      refine hK.out _ _ hS (fun _ => ?_)
      clear hK K
      try simp only [Act.put, List.setIfInBounds_toArray, List.set_cons_zero, List.set_cons_succ]
      refine wpAnyH_take (oi := ⟨_, _, _, _, _, _⟩) (i := 9) (v := .int .i64 0) rfl (by kernel_rfl) (by kernel_rfl) (by kernel_rfl) (fun _ _ _ h => h) (Or.inl ⟨by rfl, ?_⟩) (by assumption) ?_
      · (intro W hSw; have x0 := hSw.2.1.at (k := 0) (v := .string s2) rfl; have x1 := hSw.2.1.at (k := 1) (v := .bool ff) rfl; have x2 := hSw.2.1.at (k := 2) (v := .int .i64 fb) rfl; have x3 := hSw.2.1.at (k := 3) (v := .bool tf) rfl; have x4 := hSw.2.1.at (k := 4) (v := .int .i64 n) rfl; have x5 := hSw.2.1.at (k := 5) (v := .bool sg) rfl; have y0 := hSw.2.2; go_simp; try (with_reducible rfl))
      try simp only [Act.put, List.setIfInBounds_toArray, List.set_cons_zero, List.set_cons_succ]
      refine wpAnyH_done (by kernel_rfl) ?_ _
      have r0 := HJW.at (k := 0) (v := .int .i64 124) rfl
      have r1 := HJW.at (k := 1) (v := .int .u64 (r : Nat)) rfl
      have r2 := HJW.at (k := 2) (v := .int .u64 0) rfl
      have r3 := HJW.at (k := 3) (v := .bool false) rfl
      go_wp2_with fail
      exact bodyPost_ret (v := .tuple #[.agg #[.int .i64 124, .int .u64 (r : Nat), .int .u64 0, .bool false], .int .i64 0]) (by simp [results, Tryz.results20, go_sem, r0, r1, r2, r3]) rfl ⟨rfl, hS.1⟩
    exact AllReadyH.nil
  exact AllReadyH.nil
set_option maxHeartbeats 4000000 in
theorem RDone_ch25 (ro : Int) (nm tk lv : List UInt8) (fx : Bool) (sh what : List UInt8) (hsh : headC nm 46 = sh) (hwhat : tailC nm 46 = what) (hnl : nm.length ≤ 1000) (n : Nat) (hn : Okn n) (hbi : biL sh = n)
    (vi va : Value) (w : World) (T : Int) (lo hi : Nat) (HW : ∀ W, Below w.heap.size w W → Calls Tryz.prog 125 #[.int .i64 n, .string (str what), vi, va] W fun e w' => e = .returned (vv T lo hi false) ∧ Below W.heap.size W w') :
    Calls Tryz.prog 80 #[rwV (ro, nm, 25, tk, lv, fx), vi, va] w fun e w' => e = .returned (vv T lo hi false) ∧ Below w.heap.size w w' := by
  have hn0 : ((n : Int) == 0) = false := by have := hn.le; simp; have := hn.cases; omega
  have HCT := fun W => hid (RCut_says nm hnl 46 46 rfl W)
  rw [hsh, hwhat] at HCT
  have HBI := fun W => hid (RBits_says sh W)
  rw [hbi] at HBI
  have HWW := fun W h => hid (HW W h)
  unfold vv at HWW ⊢
  unfold rwV
  generalize str what = sw at *
  generalize str sh = ss at *
  generalize str nm = sn at *
  clear hsh hwhat hbi hnl HW hn
  go_enter Tryz.func80, Tryz.ntmps80
  go_wp2_with (first
    | (go_at_call 122; refine (HCT _).out.mono ?_; rintro e w1 ⟨rfl, hb1⟩; have hX1 := (And.intro ((CA.new _ _ 24).call hb1) (((((Below.refl w.heap.size w).alloc (Nat.le_refl _) _).alloc (by first | omega | (simp <;> omega)) _)).trans (hb1.mono (by first | omega | (simp <;> omega))))); have HX1 := hid hX1; have hbx := (((CA.new w _ 36).alloc _).call hb1).at (k := 2) (v := .int .i64 25) rfl; clear hb1 hX1)
    | (go_at_call 123; refine (HBI _).out.mono ?_; rintro e w2 ⟨rfl, rfl⟩)
    | (go_at_call 125; (with_reducible refine (HWW _ HX1.out.2).out.mono ?_); rintro e w9 ⟨rfl, hb9⟩; have hC9 := HX1.out.1.call hb9; rw [size_al] at hC9; have HC9 := hid hC9; have HB10 := hid (HX1.out.2.trans (hb9.mono HX1.out.2.size)); have r0 := hC9.at (k := 0) (v := .int .i64 0) rfl; have r1 := hC9.at (k := 1) (v := .int .u64 0) rfl; have r2 := hC9.at (k := 2) (v := .int .u64 0) rfl; have r3 := hC9.at (k := 3) (v := .bool false) rfl; have f0 := hC9.free 0; have f1 := hC9.free 1; have f2 := hC9.free 2; have f3 := hC9.free 3; clear hb9 hC9))
  refine bodyPost_ret (v := .agg #[.int .i64 T, .int .u64 (lo : Nat), .int .u64 (hi : Nat), .bool false]) ?_ rfl ⟨rfl, (((HB10.out.setCell (p := ⟨w.heap.size + 1, 0, none⟩) (Nat.le_succ _) _).setCell (p := ⟨w.heap.size + 1, 1, none⟩) (Nat.le_succ _) _).setCell (p := ⟨w.heap.size + 1, 2, none⟩) (Nat.le_succ _) _).setCell (p := ⟨w.heap.size + 1, 3, none⟩) (Nat.le_succ _) _⟩
  simp [results, Tryz.results80, go_sem, r0, r1, r2, r3]
set_option maxHeartbeats 4000000 in
theorem RDone_ch24 (ro : Int) (nm tk lv : List UInt8) (fx : Bool) (sh what : List UInt8) (hsh : headC nm 46 = sh) (hwhat : tailC nm 46 = what) (hnl : nm.length ≤ 1000) (n : Nat) (hn : Okn n) (hbi : biL sh = n)
    (vi va : Value) (w : World) (T : Int) (lo hi : Nat) (HW : ∀ W, Below w.heap.size w W → Calls Tryz.prog 125 #[.int .i64 n, .string (str what), vi, va] W fun e w' => e = .returned (vv T lo hi false) ∧ Below W.heap.size W w') :
    Calls Tryz.prog 80 #[rwV (ro, nm, 24, tk, lv, fx), vi, va] w fun e w' => e = .returned (vv T lo hi false) ∧ Below w.heap.size w w' := by
  have hn0 : ((n : Int) == 0) = false := by have := hn.le; simp; have := hn.cases; omega
  have HCT := fun W => hid (RCut_says nm hnl 46 46 rfl W)
  rw [hsh, hwhat] at HCT
  have HBI := fun W => hid (RBits_says sh W)
  rw [hbi] at HBI
  have HWW := fun W h => hid (HW W h)
  unfold vv at HWW ⊢
  unfold rwV
  generalize str what = sw at *
  generalize str sh = ss at *
  generalize str nm = sn at *
  clear hsh hwhat hbi hnl HW hn
  go_enter Tryz.func80, Tryz.ntmps80
  go_wp2_with (first
    | (go_at_call 122; refine (HCT _).out.mono ?_; rintro e w1 ⟨rfl, hb1⟩; have hX1 := (And.intro ((CA.new _ _ 24).call hb1) (((((Below.refl w.heap.size w).alloc (Nat.le_refl _) _).alloc (by first | omega | (simp <;> omega)) _)).trans (hb1.mono (by first | omega | (simp <;> omega))))); have HX1 := hid hX1; have hbx := (((CA.new w _ 36).alloc _).call hb1).at (k := 2) (v := .int .i64 24) rfl; clear hb1 hX1)
    | (go_at_call 123; refine (HBI _).out.mono ?_; rintro e w2 ⟨rfl, rfl⟩)
    | (go_at_call 125; (with_reducible refine (HWW _ HX1.out.2).out.mono ?_); rintro e w9 ⟨rfl, hb9⟩; have hC9 := HX1.out.1.call hb9; rw [size_al] at hC9; have HC9 := hid hC9; have HB10 := hid (HX1.out.2.trans (hb9.mono HX1.out.2.size)); have r0 := hC9.at (k := 0) (v := .int .i64 0) rfl; have r1 := hC9.at (k := 1) (v := .int .u64 0) rfl; have r2 := hC9.at (k := 2) (v := .int .u64 0) rfl; have r3 := hC9.at (k := 3) (v := .bool false) rfl; have f0 := hC9.free 0; have f1 := hC9.free 1; have f2 := hC9.free 2; have f3 := hC9.free 3; clear hb9 hC9))
  refine bodyPost_ret (v := .agg #[.int .i64 T, .int .u64 (lo : Nat), .int .u64 (hi : Nat), .bool false]) ?_ rfl ⟨rfl, (((HB10.out.setCell (p := ⟨w.heap.size + 1, 0, none⟩) (Nat.le_succ _) _).setCell (p := ⟨w.heap.size + 1, 1, none⟩) (Nat.le_succ _) _).setCell (p := ⟨w.heap.size + 1, 2, none⟩) (Nat.le_succ _) _).setCell (p := ⟨w.heap.size + 1, 3, none⟩) (Nat.le_succ _) _⟩
  simp [results, Tryz.results80, go_sem, r0, r1, r2, r3]
set_option maxHeartbeats 4000000 in
theorem RDone_chs (ro : Int) (nm tk lv : List UInt8) (fx : Bool) (sh what : List UInt8) (hsh : headC nm 46 = sh) (hwhat : tailC nm 46 = what) (hnl : nm.length ≤ 1000) (n : Nat) (hn : Okn n) (hbi : biL sh = n) (hwq : what = [115, 112, 108, 97, 116])
    (vi va : Value) (w : World) (T : Int) (lo hi : Nat) (HW : ∀ W, Below w.heap.size w W → Calls Tryz.prog 125 #[.int .i64 n, .string (str what), vi, va] W fun e w' => e = .returned (vv T lo hi false) ∧ Below W.heap.size W w') :
    Calls Tryz.prog 80 #[rwV (ro, nm, 0, tk, lv, fx), vi, va] w fun e w' => e = .returned (vv T lo hi false) ∧ Below w.heap.size w w' := by
  have hn0 : ((n : Int) == 0) = false := by have := hn.le; simp; have := hn.cases; omega
  have q0 : ((str what).toList == [115, 112, 108, 97, 116]) = true := by rw [str_list, hwq]; decide
  have HCT := fun W => hid (RCut_says nm hnl 46 46 rfl W)
  rw [hsh, hwhat] at HCT
  have HBI := fun W => hid (RBits_says sh W)
  rw [hbi] at HBI
  have HWW := fun W h => hid (HW W h)
  unfold vv at HWW ⊢
  unfold rwV
  generalize str what = sw at *
  generalize str sh = ss at *
  generalize str nm = sn at *
  clear hsh hwhat hbi hnl HW hn hwq
  go_enter Tryz.func80, Tryz.ntmps80
  go_wp2_with (first
    | (go_at_call 122; refine (HCT _).out.mono ?_; rintro e w1 ⟨rfl, hb1⟩; have hX1 := (And.intro ((CA.new _ _ 24).call hb1) (((((Below.refl w.heap.size w).alloc (Nat.le_refl _) _).alloc (by first | omega | (simp <;> omega)) _)).trans (hb1.mono (by first | omega | (simp <;> omega))))); have HX1 := hid hX1; have hbx := (((CA.new w _ 36).alloc _).call hb1).at (k := 2) (v := .int .i64 0) rfl; clear hb1 hX1)
    | (go_at_call 123; refine (HBI _).out.mono ?_; rintro e w2 ⟨rfl, rfl⟩)
    | (go_at_call 125; (with_reducible refine (HWW _ HX1.out.2).out.mono ?_); rintro e w9 ⟨rfl, hb9⟩; have hC9 := HX1.out.1.call hb9; rw [size_al] at hC9; have HC9 := hid hC9; have HB10 := hid (HX1.out.2.trans (hb9.mono HX1.out.2.size)); have r0 := hC9.at (k := 0) (v := .int .i64 0) rfl; have r1 := hC9.at (k := 1) (v := .int .u64 0) rfl; have r2 := hC9.at (k := 2) (v := .int .u64 0) rfl; have r3 := hC9.at (k := 3) (v := .bool false) rfl; have f0 := hC9.free 0; have f1 := hC9.free 1; have f2 := hC9.free 2; have f3 := hC9.free 3; clear hb9 hC9))
  refine bodyPost_ret (v := .agg #[.int .i64 T, .int .u64 (lo : Nat), .int .u64 (hi : Nat), .bool false]) ?_ rfl ⟨rfl, (((HB10.out.setCell (p := ⟨w.heap.size + 1, 0, none⟩) (Nat.le_succ _) _).setCell (p := ⟨w.heap.size + 1, 1, none⟩) (Nat.le_succ _) _).setCell (p := ⟨w.heap.size + 1, 2, none⟩) (Nat.le_succ _) _).setCell (p := ⟨w.heap.size + 1, 3, none⟩) (Nat.le_succ _) _⟩
  simp [results, Tryz.results80, go_sem, r0, r1, r2, r3]
set_option maxHeartbeats 4000000 in
theorem RDone_chw (ro : Int) (nm tk lv : List UInt8) (fx : Bool) (sh what : List UInt8) (hsh : headC nm 46 = sh) (hwhat : tailC nm 46 = what) (hnl : nm.length ≤ 1000) (n : Nat) (hn : Okn n) (hbi : biL sh = n) (hwq : what = [115, 119, 105, 122, 122, 108, 101])
    (vi va : Value) (w : World) (T : Int) (lo hi : Nat) (HW : ∀ W, Below w.heap.size w W → Calls Tryz.prog 125 #[.int .i64 n, .string (str what), vi, va] W fun e w' => e = .returned (vv T lo hi false) ∧ Below W.heap.size W w') :
    Calls Tryz.prog 80 #[rwV (ro, nm, 0, tk, lv, fx), vi, va] w fun e w' => e = .returned (vv T lo hi false) ∧ Below w.heap.size w w' := by
  have hn0 : ((n : Int) == 0) = false := by have := hn.le; simp; have := hn.cases; omega
  have q0 : ((str what).toList == [115, 112, 108, 97, 116]) = false := by rw [str_list, hwq]; decide
  have q1 : ((str what).toList == [115, 119, 105, 122, 122, 108, 101]) = true := by rw [str_list, hwq]; decide
  have HCT := fun W => hid (RCut_says nm hnl 46 46 rfl W)
  rw [hsh, hwhat] at HCT
  have HBI := fun W => hid (RBits_says sh W)
  rw [hbi] at HBI
  have HWW := fun W h => hid (HW W h)
  unfold vv at HWW ⊢
  unfold rwV
  generalize str what = sw at *
  generalize str sh = ss at *
  generalize str nm = sn at *
  clear hsh hwhat hbi hnl HW hn hwq
  go_enter Tryz.func80, Tryz.ntmps80
  go_wp2_with (first
    | (go_at_call 122; refine (HCT _).out.mono ?_; rintro e w1 ⟨rfl, hb1⟩; have hX1 := (And.intro ((CA.new _ _ 24).call hb1) (((((Below.refl w.heap.size w).alloc (Nat.le_refl _) _).alloc (by first | omega | (simp <;> omega)) _)).trans (hb1.mono (by first | omega | (simp <;> omega))))); have HX1 := hid hX1; have hbx := (((CA.new w _ 36).alloc _).call hb1).at (k := 2) (v := .int .i64 0) rfl; clear hb1 hX1)
    | (go_at_call 123; refine (HBI _).out.mono ?_; rintro e w2 ⟨rfl, rfl⟩)
    | (go_at_call 125; (with_reducible refine (HWW _ HX1.out.2).out.mono ?_); rintro e w9 ⟨rfl, hb9⟩; have hC9 := HX1.out.1.call hb9; rw [size_al] at hC9; have HC9 := hid hC9; have HB10 := hid (HX1.out.2.trans (hb9.mono HX1.out.2.size)); have r0 := hC9.at (k := 0) (v := .int .i64 0) rfl; have r1 := hC9.at (k := 1) (v := .int .u64 0) rfl; have r2 := hC9.at (k := 2) (v := .int .u64 0) rfl; have r3 := hC9.at (k := 3) (v := .bool false) rfl; have f0 := hC9.free 0; have f1 := hC9.free 1; have f2 := hC9.free 2; have f3 := hC9.free 3; clear hb9 hC9))
  refine bodyPost_ret (v := .agg #[.int .i64 T, .int .u64 (lo : Nat), .int .u64 (hi : Nat), .bool false]) ?_ rfl ⟨rfl, (((HB10.out.setCell (p := ⟨w.heap.size + 1, 0, none⟩) (Nat.le_succ _) _).setCell (p := ⟨w.heap.size + 1, 1, none⟩) (Nat.le_succ _) _).setCell (p := ⟨w.heap.size + 1, 2, none⟩) (Nat.le_succ _) _).setCell (p := ⟨w.heap.size + 1, 3, none⟩) (Nat.le_succ _) _⟩
  simp [results, Tryz.results80, go_sem, r0, r1, r2, r3]
end Go.Proofs.YtlhakbkdlgejpaaGreatDoor
