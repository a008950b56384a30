/-
  The contract of the reference's Lanes: any number.
-/
import Derived.Test.YtnechalhgdmgiaaDoorRBytes
set_option linter.unusedSimpArgs false
set_option linter.unusedVariables false
namespace Go.Proofs.YtnechalhgdmgiaaDoor
open Go.RowKit

set_option maxHeartbeats 4000000 in
set_option maxRecDepth 100000 in
theorem RLanes_says (op : Int) (w : World) : Calls Tryd.prog 19 #[.int .i64 op] w fun e w' => e = .returned (.int .i64 (refLanes (ofL op))) ∧ Below w.heap.size w w' := by
  obtain ⟨ro, nm, im, tk, lv, fx, hr⟩ : ∃ ro nm im tk lv fx, ofL op = (ro, nm, im, tk, lv, fx) := ⟨_, _, _, _, _, _, rfl⟩
  obtain ⟨_, _, hnl, _, hpos⟩ := agreeP_parts op hr
  dsimp only at hnl hpos
  have HOf := fun W => hid (Of_says op W)
  have HBy := fun W => hid (Bytes_says op W)
  rw [hr] at HOf HBy
  have HBT := hid (show refLanes (ofL op) = refLanes (ro, nm, im, tk, lv, fx) by rw [hr])
  obtain ⟨q, hq⟩ : ∃ q, q = bytesL (ro, nm, im, tk, lv, fx) := ⟨_, rfl⟩
  rw [← hq] at HBy hpos
  have HQ := hid hq
  have HPOS := hid hpos
  have hNL := hid hnl
  clear hr hpos hnl hq
  rename_i q1 q2 q3
  clear q1 q2 q3
  go_enter Tryd.func19, Tryd.ntmps19
  go_upto_region 2 with (go_at_call 9; refine (HOf _).out.mono ?_; rintro e w3 ⟨rfl, hb⟩; unfold rwV)
  have HB3 := hid hb
  clear hb HOf
  have HR4 : Hid (RB w3.heap.size (ro, nm, im, tk, lv, fx) (w3.alloc (.cells (rwCells (ro, nm, im, tk, lv, fx)) 24))) := RB.newr _ _
  have HB4 := hid (HB3.out.alloc HB3.out.size (.cells (rwCells (ro, nm, im, tk, lv, fx)) 24))
  simp only [rwCells] at HR4 HB4
  generalize w3.alloc (.cells #[.int .i64 ro, .string (str nm), .int .i64 im, .string (str tk), .string (str lv), .bool fx] 24) = w4 at *
  generalize w3.heap.size = gr at *
  clear HB3
  obtain ⟨x0, x1, x2, x3, x4, x5⟩ := HR4.out.cells
  clear x3 x4 x5
  by_cases h0 : ro < 0
  · have HE := hid (show refLanes (ofL op) = 0 by rw [HBT.out]; unfold refLanes; rw [if_pos h0])
    go_wp2
    go_ret
    exact ⟨by rw [HE.out]; rfl, HB4.out⟩
  by_cases h24 : im = 24
  · subst h24
    have HE := hid (show refLanes (ofL op) = 32 by rw [HBT.out]; unfold refLanes; rw [if_neg h0]; rfl)
    go_wp2
    go_ret
    exact ⟨by rw [HE.out]; rfl, HB4.out⟩
  by_cases h26 : im = 26
  · subst h26
    have hqp : 0 < q := HPOS.out (by omega) rfl
    have HE := hid (show refLanes (ofL op) = 16 / q by rw [HBT.out, HQ.out, ← Int.tdiv_eq_ediv_of_nonneg (by decide : (0 : Int) ≤ 16)]; unfold refLanes; rw [if_neg h0]; rfl)
    have hq0 : ¬ q = 0 := by omega
    have hq1 : (q == 0) = false := by simp; omega
    have hdb : 0 ≤ 16 / q ∧ 16 / q ≤ 16 := ⟨Int.ediv_nonneg (by decide) (by omega), Int.ediv_le_self _ (by decide)⟩
    have hwt : wrap64 (16 / q) = 16 / q := by unfold wrap64; omega
    have HW := hid hwt
    have HW2 := hid hdb
    clear h24 hdb
    go_wp2_with (go_at_call 33; refine (HBy _).out.mono ?_; rintro e w5 ⟨rfl, hb⟩)
    go_ret
    exact ⟨by rw [HE.out]; rfl, HB4.out.trans (hb.mono HB4.out.size)⟩
  have g24 : (im == 24) = false := beq_eq_false_iff_ne.2 h24
  have g26 : (im == 26) = false := beq_eq_false_iff_ne.2 h26
  by_cases h25 : im = 25
  · have HN := hid (show refLanes (ofL op) = (match firstOf nm SH 0 6 with | some i => SN.getD i 0 | none => 0) by rw [HBT.out]; unfold refLanes; rw [if_neg h0, if_neg h24, if_neg h26, if_pos h25]; rfl)
    subst h25
    clear h24 h26 g24 g26
    have HRB : Hid (∀ W, Below w4.heap.size w4 W → RB gr (ro, nm, 25, tk, lv, fx) W) := fun W h => HR4.out.call h
    have hB := Below.refl w4.heap.size w4
    obtain ⟨s, hs⟩ : ∃ s, s = str nm := ⟨_, rfl⟩
    have HSS := hid hs
    rw [← hs] at x1
    clear hs
    go_upto_region 11 with fail
    have HLC : Hid (∀ W, Below (w4.alloc (.cells #[.string ⟨#[105, 56, 120, 49, 54]⟩, .string ⟨#[105, 49, 54, 120, 56]⟩, .string ⟨#[105, 51, 50, 120, 52]⟩, .string ⟨#[105, 54, 52, 120, 50]⟩, .string ⟨#[102, 51, 50, 120, 52]⟩, .string ⟨#[102, 54, 52, 120, 50]⟩] 9)).heap.size (w4.alloc (.cells #[.string ⟨#[105, 56, 120, 49, 54]⟩, .string ⟨#[105, 49, 54, 120, 56]⟩, .string ⟨#[105, 51, 50, 120, 52]⟩, .string ⟨#[105, 54, 52, 120, 50]⟩, .string ⟨#[102, 51, 50, 120, 52]⟩, .string ⟨#[102, 54, 52, 120, 50]⟩] 9)) W → ∀ i, i < 6 → W.cell? ⟨w4.heap.size, i, none⟩ = some (.string (str (SH.getD i [])))) := fun W h i hi => by
      rw [h.cell (p := ⟨w4.heap.size, i, none⟩) (by simp)]
      exact lit_cell w4 SH i hi
    have HB6 := hid ((HB4.out).alloc HB4.out.size (.cells #[.string ⟨#[105, 56, 120, 49, 54]⟩, .string ⟨#[105, 49, 54, 120, 56]⟩, .string ⟨#[105, 51, 50, 120, 52]⟩, .string ⟨#[105, 54, 52, 120, 50]⟩, .string ⟨#[102, 51, 50, 120, 52]⟩, .string ⟨#[102, 54, 52, 120, 50]⟩] 9))
    have HRB2 : Hid (∀ W, Below (w4.alloc (.cells #[.string ⟨#[105, 56, 120, 49, 54]⟩, .string ⟨#[105, 49, 54, 120, 56]⟩, .string ⟨#[105, 51, 50, 120, 52]⟩, .string ⟨#[105, 54, 52, 120, 50]⟩, .string ⟨#[102, 51, 50, 120, 52]⟩, .string ⟨#[102, 54, 52, 120, 50]⟩] 9)).heap.size (w4.alloc (.cells #[.string ⟨#[105, 56, 120, 49, 54]⟩, .string ⟨#[105, 49, 54, 120, 56]⟩, .string ⟨#[105, 51, 50, 120, 52]⟩, .string ⟨#[105, 54, 52, 120, 50]⟩, .string ⟨#[102, 51, 50, 120, 52]⟩, .string ⟨#[102, 54, 52, 120, 50]⟩] 9)) W → RB gr (ro, nm, 25, tk, lv, fx) W) := fun W h => (HRB.out _ (hB.alloc hB.size _)).call h
    generalize w4.alloc (.cells #[.string ⟨#[105, 56, 120, 49, 54]⟩, .string ⟨#[105, 49, 54, 120, 56]⟩, .string ⟨#[105, 51, 50, 120, 52]⟩, .string ⟨#[105, 54, 52, 120, 50]⟩, .string ⟨#[102, 51, 50, 120, 52]⟩, .string ⟨#[102, 54, 52, 120, 50]⟩] 9) = w6 at *
    generalize w4.heap.size = g6 at *
    go_wp2
    go_loopw [5] (fun vi wr => ∃ n : Nat, Hid (n ≤ 6 ∧ ∀ i, i < n → hasL nm (SH.getD i []) = false) ∧ vi = .int .i64 n ∧ Hid (Below w6.heap.size w6 wr)) (fun vi _ => 7 - (intOf vi).toNat)
    case atStart => exact ⟨0, ⟨Nat.zero_le _, fun i hi => by omega⟩, rfl, Below.refl _ _⟩
    case round =>
      obtain ⟨n, hn, rfl, HR⟩ := hrel
      by_cases hlt : n < 6
      · obtain ⟨t, ht⟩ : ∃ t, t = str (SH.getD n []) := ⟨_, rfl⟩
        have htH := hid ht
        have hlen : ∀ k, k < 6 → (SH.getD k []).length ≤ 100 := by decide
        have HT := fun W => hid (has_says nm (SH.getD n []) hNL.out (hlen n hlt) W)
        rw [← ht, ← HSS.out] at HT
        clear ht hlen
        cases hh : hasL nm (SH.getD n []) with
        | true =>
          rw [hh] at HT
          have HRES := hid (show refLanes (ofL op) = SN.getD n 0 by rw [HN.out, first_some nm SH 6 0 n (Nat.zero_le _) (by omega) (fun j _ h => hn.out.2 j h) hh])
          clear hh
          go_wp2_with fail
          have hS : Below w6.heap.size w6 wr.drew := HR.out.drew
          refine wp_region_held_drew (S := Below w6.heap.size w6) (by kernel_rfl) hS (fun _ => ?_)
          generalize wr.drew = W at *
          refine wpAnyH_take (oi := ⟨_, _, _, _, _, _⟩) (i := 0) (v := .pointer (some ⟨gr, 1, none⟩)) rfl (by kernel_rfl) (by kernel_rfl) (by kernel_rfl) (fun _ _ _ h => h) (Or.inl ⟨by rfl, ?_⟩) (by assumption) ?_
          · (intro W hSw; have x1 := (HRB2.out W hSw).cells.2.1; rw [← HSS.out] at x1; have y1 := HLC.out W hSw n hlt; rw [← htH.out] at y1; go_simp; try (with_reducible rfl))
          try simp only [Act.put, List.setIfInBounds_toArray, List.set_cons_zero, List.set_cons_succ]
          refine wpAnyH_take (oi := ⟨_, _, _, _, _, _⟩) (i := 1) (v := .string s) rfl (by kernel_rfl) (by kernel_rfl) (by kernel_rfl) (fun _ _ _ h => h) (Or.inl ⟨by rfl, ?_⟩) (by assumption) ?_
          · (intro W hSw; have x1 := (HRB2.out W hSw).cells.2.1; rw [← HSS.out] at x1; have y1 := HLC.out W hSw n hlt; rw [← htH.out] at y1; go_simp; try (with_reducible rfl))
          try simp only [Act.put, List.setIfInBounds_toArray, List.set_cons_zero, List.set_cons_succ]
          refine wpAnyH_take (oi := ⟨_, _, _, _, _, _⟩) (i := 2) (v := .slice (some ⟨g6, 0, none⟩) 6 6) rfl (by kernel_rfl) (by kernel_rfl) (by kernel_rfl) (fun _ _ _ h => h) (Or.inl ⟨by rfl, ?_⟩) (by assumption) ?_
          · (intro W hSw; have x1 := (HRB2.out W hSw).cells.2.1; rw [← HSS.out] at x1; have y1 := HLC.out W hSw n hlt; rw [← htH.out] at y1; go_simp; try (with_reducible rfl))
          try simp only [Act.put, List.setIfInBounds_toArray, List.set_cons_zero, List.set_cons_succ]
          refine wpAnyH_take (oi := ⟨_, _, _, _, _, _⟩) (i := 3) (v := .int .i64 (n : Int)) rfl (by kernel_rfl) (by kernel_rfl) (by kernel_rfl) (fun _ _ _ h => h) (Or.inl ⟨by rfl, ?_⟩) (by assumption) ?_
          · (intro W hSw; have x1 := (HRB2.out W hSw).cells.2.1; rw [← HSS.out] at x1; have y1 := HLC.out W hSw n hlt; rw [← htH.out] at y1; go_simp; try (with_reducible rfl))
          try simp only [Act.put, List.setIfInBounds_toArray, List.set_cons_zero, List.set_cons_succ]
          refine wpAnyH_take (oi := ⟨_, _, _, _, _, _⟩) (i := 4) (v := .pointer (some ⟨g6, n, none⟩)) rfl (by kernel_rfl) (by kernel_rfl) (by kernel_rfl) (fun _ _ _ h => h) (Or.inl ⟨by rfl, ?_⟩) (by assumption) ?_
          · (intro W hSw; have x1 := (HRB2.out W hSw).cells.2.1; rw [← HSS.out] at x1; have y1 := HLC.out W hSw n hlt; rw [← htH.out] at y1; go_simp; try (with_reducible rfl))
          try simp only [Act.put, List.setIfInBounds_toArray, List.set_cons_zero, List.set_cons_succ]
          refine wpAnyH_take (oi := ⟨_, _, _, _, _, _⟩) (i := 5) (v := .string t) rfl (by kernel_rfl) (by kernel_rfl) (by kernel_rfl) (fun _ _ _ h => h) (Or.inl ⟨by rfl, ?_⟩) (by assumption) ?_
          · (intro W hSw; have x1 := (HRB2.out W hSw).cells.2.1; rw [← HSS.out] at x1; have y1 := HLC.out W hSw n hlt; rw [← htH.out] at y1; go_simp; try (with_reducible rfl))
          try simp only [Act.put, List.setIfInBounds_toArray, List.set_cons_zero, List.set_cons_succ]
          refine wpAnyH_ready (rs := [6]) (by kernel_rfl) (by simp) ?_
          refine AllReadyH.cons (o := ⟨_, _, _, _, _, _⟩) rfl (fun K hK => ?_) ?_
          · go_simp
            go_at_call 34
            (with_reducible refine (HT _).out.mono ?_)
            rintro e W1 ⟨rfl, hb⟩
            replace hS := hS.trans (hb.mono hS.size)
            clear hb
            refine hK.out _ _ hS (fun _ => ?_)
            clear hK K
            try simp only [Act.put, List.setIfInBounds_toArray, List.set_cons_zero, List.set_cons_succ]
            refine wpAnyH_done (by kernel_rfl) ?_ _
            rcases (by omega : n = 0 ∨ n = 1 ∨ n = 2 ∨ n = 3 ∨ n = 4 ∨ n = 5) with rfl | rfl | rfl | rfl | rfl | rfl
            · (go_wp2_with fail)
              go_ret
              exact ⟨by rw [HRES.out]; rfl, ((HB6.out.trans (hS.mono HB6.out.size)).alloc (by have := (HB6.out.trans (hS.mono HB6.out.size)).size; exact this) _)⟩
            · (go_wp2_with fail)
              go_ret
              exact ⟨by rw [HRES.out]; rfl, ((HB6.out.trans (hS.mono HB6.out.size)).alloc (by have := (HB6.out.trans (hS.mono HB6.out.size)).size; exact this) _)⟩
            · (go_wp2_with fail)
              go_ret
              exact ⟨by rw [HRES.out]; rfl, ((HB6.out.trans (hS.mono HB6.out.size)).alloc (by have := (HB6.out.trans (hS.mono HB6.out.size)).size; exact this) _)⟩
            · (go_wp2_with fail)
              go_ret
              exact ⟨by rw [HRES.out]; rfl, ((HB6.out.trans (hS.mono HB6.out.size)).alloc (by have := (HB6.out.trans (hS.mono HB6.out.size)).size; exact this) _)⟩
            · (go_wp2_with fail)
              go_ret
              exact ⟨by rw [HRES.out]; rfl, ((HB6.out.trans (hS.mono HB6.out.size)).alloc (by have := (HB6.out.trans (hS.mono HB6.out.size)).size; exact this) _)⟩
            · (go_wp2_with fail)
              go_ret
              exact ⟨by rw [HRES.out]; rfl, ((HB6.out.trans (hS.mono HB6.out.size)).alloc (by have := (HB6.out.trans (hS.mono HB6.out.size)).size; exact this) _)⟩
          exact AllReadyH.nil
        | false =>
          rw [hh] at HT
          have hn1 : Hid (n + 1 ≤ 6 ∧ ∀ i, i < n + 1 → hasL nm (SH.getD i []) = false) := ⟨hlt, fun i hi => by
            rcases Nat.lt_or_ge i n with h | h
            · exact hn.out.2 i h
            · obtain rfl : i = n := by omega
              exact hh⟩
          clear hh
          go_wp2_with fail
          have hS : Below w6.heap.size w6 wr.drew := HR.out.drew
          refine wp_region_held_drew (S := Below w6.heap.size w6) (by kernel_rfl) hS (fun _ => ?_)
          generalize wr.drew = W at *
          refine wpAnyH_take (oi := ⟨_, _, _, _, _, _⟩) (i := 0) (v := .pointer (some ⟨gr, 1, none⟩)) rfl (by kernel_rfl) (by kernel_rfl) (by kernel_rfl) (fun _ _ _ h => h) (Or.inl ⟨by rfl, ?_⟩) (by assumption) ?_
          · (intro W hSw; have x1 := (HRB2.out W hSw).cells.2.1; rw [← HSS.out] at x1; have y1 := HLC.out W hSw n hlt; rw [← htH.out] at y1; go_simp; try (with_reducible rfl))
          try simp only [Act.put, List.setIfInBounds_toArray, List.set_cons_zero, List.set_cons_succ]
          refine wpAnyH_take (oi := ⟨_, _, _, _, _, _⟩) (i := 1) (v := .string s) rfl (by kernel_rfl) (by kernel_rfl) (by kernel_rfl) (fun _ _ _ h => h) (Or.inl ⟨by rfl, ?_⟩) (by assumption) ?_
          · (intro W hSw; have x1 := (HRB2.out W hSw).cells.2.1; rw [← HSS.out] at x1; have y1 := HLC.out W hSw n hlt; rw [← htH.out] at y1; go_simp; try (with_reducible rfl))
          try simp only [Act.put, List.setIfInBounds_toArray, List.set_cons_zero, List.set_cons_succ]
          refine wpAnyH_take (oi := ⟨_, _, _, _, _, _⟩) (i := 2) (v := .slice (some ⟨g6, 0, none⟩) 6 6) rfl (by kernel_rfl) (by kernel_rfl) (by kernel_rfl) (fun _ _ _ h => h) (Or.inl ⟨by rfl, ?_⟩) (by assumption) ?_
          · (intro W hSw; have x1 := (HRB2.out W hSw).cells.2.1; rw [← HSS.out] at x1; have y1 := HLC.out W hSw n hlt; rw [← htH.out] at y1; go_simp; try (with_reducible rfl))
          try simp only [Act.put, List.setIfInBounds_toArray, List.set_cons_zero, List.set_cons_succ]
          refine wpAnyH_take (oi := ⟨_, _, _, _, _, _⟩) (i := 3) (v := .int .i64 (n : Int)) rfl (by kernel_rfl) (by kernel_rfl) (by kernel_rfl) (fun _ _ _ h => h) (Or.inl ⟨by rfl, ?_⟩) (by assumption) ?_
          · (intro W hSw; have x1 := (HRB2.out W hSw).cells.2.1; rw [← HSS.out] at x1; have y1 := HLC.out W hSw n hlt; rw [← htH.out] at y1; go_simp; try (with_reducible rfl))
          try simp only [Act.put, List.setIfInBounds_toArray, List.set_cons_zero, List.set_cons_succ]
          refine wpAnyH_take (oi := ⟨_, _, _, _, _, _⟩) (i := 4) (v := .pointer (some ⟨g6, n, none⟩)) rfl (by kernel_rfl) (by kernel_rfl) (by kernel_rfl) (fun _ _ _ h => h) (Or.inl ⟨by rfl, ?_⟩) (by assumption) ?_
          · (intro W hSw; have x1 := (HRB2.out W hSw).cells.2.1; rw [← HSS.out] at x1; have y1 := HLC.out W hSw n hlt; rw [← htH.out] at y1; go_simp; try (with_reducible rfl))
          try simp only [Act.put, List.setIfInBounds_toArray, List.set_cons_zero, List.set_cons_succ]
          refine wpAnyH_take (oi := ⟨_, _, _, _, _, _⟩) (i := 5) (v := .string t) rfl (by kernel_rfl) (by kernel_rfl) (by kernel_rfl) (fun _ _ _ h => h) (Or.inl ⟨by rfl, ?_⟩) (by assumption) ?_
          · (intro W hSw; have x1 := (HRB2.out W hSw).cells.2.1; rw [← HSS.out] at x1; have y1 := HLC.out W hSw n hlt; rw [← htH.out] at y1; go_simp; try (with_reducible rfl))
          try simp only [Act.put, List.setIfInBounds_toArray, List.set_cons_zero, List.set_cons_succ]
          refine wpAnyH_ready (rs := [6]) (by kernel_rfl) (by simp) ?_
          refine AllReadyH.cons (o := ⟨_, _, _, _, _, _⟩) rfl (fun K hK => ?_) ?_
          · go_simp
            go_at_call 34
            (with_reducible refine (HT _).out.mono ?_)
            rintro e W1 ⟨rfl, hb⟩
            replace hS := hS.trans (hb.mono hS.size)
            clear hb
            refine hK.out _ _ hS (fun _ => ?_)
            clear hK K
            try simp only [Act.put, List.setIfInBounds_toArray, List.set_cons_zero, List.set_cons_succ]
            refine wpAnyH_done (by kernel_rfl) ?_ _
            (go_wp2_with fail)
            go_roundw
            case rel => exact ⟨n + 1, hn1.out, by go_num, hS⟩
            case measure => (first | (simp [intOf]; done) | (simp [intOf]; omega))
          exact AllReadyH.nil
      · obtain rfl : n = 6 := by have := hn.out.1; omega
        have HE3 := hid (HN.out.trans (by rw [first_none nm SH 6 0 (fun j _ h => hn.out.2 j (by omega))] : _ = (0 : Int)))
        go_wp2
        go_ret
        exact ⟨by rw [HE3.out]; rfl, HB6.out.trans (HR.out.mono HB6.out.size)⟩
  · have HE := hid (show refLanes (ofL op) = 0 by rw [HBT.out]; unfold refLanes; rw [if_neg h0, if_neg h24, if_neg h26, if_neg h25])
    have g25 : (im == 25) = false := beq_eq_false_iff_ne.2 h25
    clear h24 h25 h26
    go_wp2
    go_ret
    exact ⟨by rw [HE.out]; rfl, HB4.out⟩
end Go.Proofs.YtnechalhgdmgiaaDoor
