/-
  RBytes, RLanes: merged, what the law does not reach left out (each text says what it holds where it lies in wip). No condition.
-/
import Derived.Test.YtlhakbkdlgejpaaGreatDoorH18
import Derived.Test.YtlhakbkdlgejpaaGreatDoorH10
import Derived.Deep.RegionHeld3
import Derived.Deep.DeepCutAuto
set_option linter.unusedSimpArgs false
set_option linter.unusedVariables false
set_option maxRecDepth 100000
namespace Go.Proofs.YtlhakbkdlgejpaaGreatDoor
open Go.RowKit
theorem has_3 (nm : List UInt8) (hl : nm.length ≤ 100) : (∀ W, Hid (Calls Tryz.prog 79 #[.string (str nm), .string ⟨#[56, 120, 56]⟩] W fun e w' => e = .returned (.bool (hasL nm [56, 120, 56])) ∧ Below W.heap.size W w')) ∧
    (∀ W, Hid (Calls Tryz.prog 79 #[.string (str nm), .string ⟨#[49, 54, 120, 52]⟩] W fun e w' => e = .returned (.bool (hasL nm [49, 54, 120, 52])) ∧ Below W.heap.size W w')) ∧
    (∀ W, Hid (Calls Tryz.prog 79 #[.string (str nm), .string ⟨#[51, 50, 120, 50]⟩] W fun e w' => e = .returned (.bool (hasL nm [51, 50, 120, 50])) ∧ Below W.heap.size W w')) :=
  ⟨fun W => has_says nm [56, 120, 56] hl (by decide) W, fun W => has_says nm [49, 54, 120, 52] hl (by decide) W, fun W => has_says nm [51, 50, 120, 50] hl (by decide) W⟩
theorem lit_cell (w : World) (L : List (List UInt8)) (i : Nat) (h : i < L.length) : (w.alloc (.cells (sc L).toArray 9)).cell? ⟨w.heap.size, i, none⟩ = some (.string (str (L.getD i []))) := by
  have hh : (w.alloc (.cells (sc L).toArray 9)).heap[w.heap.size]? = some (.cells (sc L).toArray 9 (0, 0)) := by
    show (w.heap.push _)[w.heap.size]? = _
    simp
  rw [World.cell?, hh]
  exact sc_at h
set_option maxHeartbeats 4000000 in
set_option maxRecDepth 100000 in
theorem Bytes_says (op : Int) (w : World) : Calls Tryz.prog 78 #[.int .i64 op] w fun e w' => e = .returned (.int .i64 (bytesL (ofL op))) ∧ Below w.heap.size w w' := by
  obtain ⟨ro, nm, im, tk, lv, fx, hr⟩ : ∃ ro nm im tk lv fx, ofL op = (ro, nm, im, tk, lv, fx) := ⟨_, _, _, _, _, _, rfl⟩
  obtain ⟨_, _, hnl, hn3, _⟩ := agreeP_parts op hr
  dsimp only at hnl hn3
  have HOf := fun W => hid (Of_says op W)
  rw [hr] at HOf
  have HBT := hid (show bytesL (ofL op) = bytesL (ro, nm, im, tk, lv, fx) by rw [hr])
  have hN3 := hid hn3
  have hNL := hid hnl
  clear hr hn3 hnl
  rename_i q1 q2 q3
  clear q1 q2 q3
  go_enter Tryz.func78, Tryz.ntmps78
  go_upto_region 2 with (go_at_call 23; refine (HOf _).out.mono ?_; rintro e w3 ⟨rfl, hb⟩; unfold rwV)
  have HB3 := hid hb
  clear hb HOf
  have HR4 : Hid (RB w3.heap.size (ro, nm, im, tk, lv, fx) (w3.alloc (.cells (rwCells (ro, nm, im, tk, lv, fx)) 36))) := RB.newr _ _
  have HB4 := hid (HB3.out.alloc HB3.out.size (.cells (rwCells (ro, nm, im, tk, lv, fx)) 36))
  simp only [rwCells] at HR4 HB4
  generalize w3.alloc (.cells #[.int .i64 ro, .string (str nm), .int .i64 im, .string (str tk), .string (str lv), .bool fx] 36) = w4 at *
  generalize w3.heap.size = gr at *
  clear HB3
  obtain ⟨x0, x1, x2, x3, x4, x5⟩ := HR4.out.cells
  by_cases h0 : ro < 0
  · have HE := hid (show bytesL (ofL op) = 0 by rw [HBT.out]; unfold bytesL; rw [if_pos h0])
    clear x3 x4 x5
    go_wp2
    go_ret
    exact ⟨by rw [HE.out]; rfl, HB4.out⟩
  by_cases h1 : im ≠ 10 ∧ im ≠ 26
  · have HE := hid (show bytesL (ofL op) = 0 by rw [HBT.out]; unfold bytesL; rw [if_neg h0, if_pos h1])
    have g1 : (im != 10) = true := by simp [h1.1]
    have g2 : (im != 26) = true := by simp [h1.2]
    clear x3 x4 x5 h1
    go_wp2
    go_ret
    exact ⟨by rw [HE.out]; rfl, HB4.out⟩
  have HE := hid (show bytesL (ofL op) = bytesN nm by rw [HBT.out]; unfold bytesL; rw [if_neg h0, if_neg h1])
  have hn3 : 3 ≤ nm.length := hN3.out (by omega) (by omega)
  obtain ⟨b1, hb1⟩ : ∃ b, b = hasL nm [56, 120, 56] := ⟨_, rfl⟩
  obtain ⟨b2, hb2⟩ : ∃ b, b = hasL nm [49, 54, 120, 52] := ⟨_, rfl⟩
  obtain ⟨b3, hb3⟩ : ∃ b, b = hasL nm [51, 50, 120, 50] := ⟨_, rfl⟩
  obtain ⟨H1, H2, H3⟩ := has_3 nm hNL.out
  have HN : Hid (bytesN nm = if b1 || b2 || b3 then 8 else match firstOf nm LS 0 8 with | some i => SZ.getD i 0 | none => lastOf nm) := by rw [hb1, hb2, hb3]; rfl
  rw [← hb1] at H1
  rw [← hb2] at H2
  rw [← hb3] at H3
  clear hb1 hb2 hb3 HBT
  have HRB : Hid (∀ W, Below w4.heap.size w4 W → RB gr (ro, nm, im, tk, lv, fx) W) := fun W h => HR4.out.call h
  obtain ⟨c1, c2, hm⟩ : ∃ c1 c2 : Bool, (im != 10) = c1 ∧ (im != 26) = c2 ∧ (c1 && c2) = false := by
    refine ⟨_, _, rfl, rfl, ?_⟩
    rw [Bool.and_eq_false_iff, bne_eq_false_iff_eq, bne_eq_false_iff_eq]
    by_cases e : im = 10
    · exact .inl e
    · by_cases e2 : im = 26
      · exact .inr e2
      · exact absurd ⟨e, e2⟩ h1
  obtain ⟨hm1, hm2, hm3⟩ := hm
  clear h1
  go_upto_region 2 with fail
  go_cut [20] (fun s wx => s = .bool false ∧ w4 = wx)
  case first =>
    cases c1
    · clear x3 x4 x5 hm3
      go_wp2
      go_meet
      exact ⟨rfl, rfl⟩
    · cases c2
      · clear x3 x4 x5 hm3
        go_wp2
        go_meet
        exact ⟨rfl, rfl⟩
      · cases hm3
  case rest =>
    obtain ⟨rfl, rfl⟩ := hcut
    clear hm1 hm2 hm3 x0 x2 x3 x4 x5
    have hB := Below.refl w4.heap.size w4
    obtain ⟨s, hs⟩ : ∃ s, s = str nm := ⟨_, rfl⟩
    have HSS := hid hs
    rw [← hs] at x1 H1 H2 H3
    cases b1
    · cases b2
      · cases b3
        · replace HN : Hid (bytesN nm = match firstOf nm LS 0 8 with | some i => SZ.getD i 0 | none => lastOf nm) := HN
          clear hs
          go_upto_region 7 with (first
            | (go_at_call 79; ((with_reducible refine (H1 _).out.mono ?_); rintro e w5 ⟨rfl, hb⟩; replace hB := hB.trans (hb.mono hB.size); clear hb; have x1 := (HRB.out _ hB).cells.2.1; rw [← HSS.out] at x1))
            | (go_at_call 79; ((with_reducible refine (H2 _).out.mono ?_); rintro e w5 ⟨rfl, hb⟩; replace hB := hB.trans (hb.mono hB.size); clear hb; have x1 := (HRB.out _ hB).cells.2.1; rw [← HSS.out] at x1))
            | (go_at_call 79; ((with_reducible refine (H3 _).out.mono ?_); rintro e w5 ⟨rfl, hb⟩; replace hB := hB.trans (hb.mono hB.size); clear hb; have x1 := (HRB.out _ hB).cells.2.1; rw [← HSS.out] at x1)))
          clear H1 H2 H3
          have HLC : Hid (∀ W, Below (w5.alloc (.cells #[.string ⟨#[108, 111, 97, 100, 56]⟩, .string ⟨#[115, 116, 111, 114, 101, 56]⟩, .string ⟨#[108, 111, 97, 100, 49, 54]⟩, .string ⟨#[115, 116, 111, 114, 101, 49, 54]⟩, .string ⟨#[108, 111, 97, 100, 51, 50]⟩, .string ⟨#[115, 116, 111, 114, 101, 51, 50]⟩, .string ⟨#[108, 111, 97, 100, 54, 52]⟩, .string ⟨#[115, 116, 111, 114, 101, 54, 52]⟩] 9)).heap.size (w5.alloc (.cells #[.string ⟨#[108, 111, 97, 100, 56]⟩, .string ⟨#[115, 116, 111, 114, 101, 56]⟩, .string ⟨#[108, 111, 97, 100, 49, 54]⟩, .string ⟨#[115, 116, 111, 114, 101, 49, 54]⟩, .string ⟨#[108, 111, 97, 100, 51, 50]⟩, .string ⟨#[115, 116, 111, 114, 101, 51, 50]⟩, .string ⟨#[108, 111, 97, 100, 54, 52]⟩, .string ⟨#[115, 116, 111, 114, 101, 54, 52]⟩] 9)) W → ∀ i, i < 8 → W.cell? ⟨w5.heap.size, i, none⟩ = some (.string (str (LS.getD i [])))) := fun W h i hi => by
            rw [h.cell (p := ⟨w5.heap.size, i, none⟩) (by simp)]
            exact lit_cell w5 LS i hi
          have HB6 := hid ((HB4.out.trans (hB.mono HB4.out.size)).alloc (HB4.out.trans (hB.mono HB4.out.size)).size (.cells #[.string ⟨#[108, 111, 97, 100, 56]⟩, .string ⟨#[115, 116, 111, 114, 101, 56]⟩, .string ⟨#[108, 111, 97, 100, 49, 54]⟩, .string ⟨#[115, 116, 111, 114, 101, 49, 54]⟩, .string ⟨#[108, 111, 97, 100, 51, 50]⟩, .string ⟨#[115, 116, 111, 114, 101, 51, 50]⟩, .string ⟨#[108, 111, 97, 100, 54, 52]⟩, .string ⟨#[115, 116, 111, 114, 101, 54, 52]⟩] 9))
          have HRB2 : Hid (∀ W, Below (w5.alloc (.cells #[.string ⟨#[108, 111, 97, 100, 56]⟩, .string ⟨#[115, 116, 111, 114, 101, 56]⟩, .string ⟨#[108, 111, 97, 100, 49, 54]⟩, .string ⟨#[115, 116, 111, 114, 101, 49, 54]⟩, .string ⟨#[108, 111, 97, 100, 51, 50]⟩, .string ⟨#[115, 116, 111, 114, 101, 51, 50]⟩, .string ⟨#[108, 111, 97, 100, 54, 52]⟩, .string ⟨#[115, 116, 111, 114, 101, 54, 52]⟩] 9)).heap.size (w5.alloc (.cells #[.string ⟨#[108, 111, 97, 100, 56]⟩, .string ⟨#[115, 116, 111, 114, 101, 56]⟩, .string ⟨#[108, 111, 97, 100, 49, 54]⟩, .string ⟨#[115, 116, 111, 114, 101, 49, 54]⟩, .string ⟨#[108, 111, 97, 100, 51, 50]⟩, .string ⟨#[115, 116, 111, 114, 101, 51, 50]⟩, .string ⟨#[108, 111, 97, 100, 54, 52]⟩, .string ⟨#[115, 116, 111, 114, 101, 54, 52]⟩] 9)) W → RB gr (ro, nm, im, tk, lv, fx) W) := fun W h => (HRB.out _ (hB.alloc hB.size _)).call h
          generalize w5.alloc (.cells #[.string ⟨#[108, 111, 97, 100, 56]⟩, .string ⟨#[115, 116, 111, 114, 101, 56]⟩, .string ⟨#[108, 111, 97, 100, 49, 54]⟩, .string ⟨#[115, 116, 111, 114, 101, 49, 54]⟩, .string ⟨#[108, 111, 97, 100, 51, 50]⟩, .string ⟨#[115, 116, 111, 114, 101, 51, 50]⟩, .string ⟨#[108, 111, 97, 100, 54, 52]⟩, .string ⟨#[115, 116, 111, 114, 101, 54, 52]⟩] 9) = w6 at *
          generalize w5.heap.size = g6 at *
          go_wp2
          go_loopw [5] (fun vi wr => ∃ n : Nat, Hid (n ≤ 8 ∧ ∀ i, i < n → hasL nm (LS.getD i []) = false) ∧ vi = .int .i64 n ∧ Hid (Below w6.heap.size w6 wr)) (fun vi _ => 9 - (intOf vi).toNat)
          case atStart => exact ⟨0, ⟨Nat.zero_le _, fun i hi => by omega⟩, rfl, Below.refl _ _⟩
          case round =>
            obtain ⟨n, hn, rfl, HR⟩ := hrel
            by_cases hlt : n < 8
            · obtain ⟨t, ht⟩ : ∃ t, t = str (LS.getD n []) := ⟨_, rfl⟩
              have htH := hid ht
              have hlen : ∀ k, k < 8 → (LS.getD k []).length ≤ 100 := by decide
              have HT := fun W => hid (has_says nm (LS.getD n []) hNL.out (hlen n hlt) W)
              rw [← ht, ← HSS.out] at HT
              clear ht hlen
              cases hh : hasL nm (LS.getD n []) with
              | true =>
                rw [hh] at HT
                have HRES := hid (show bytesL (ofL op) = SZ.getD n 0 by rw [HE.out, HN.out, first_some nm LS 8 0 n (Nat.zero_le _) (by omega) (fun j _ h => hn.out.2 j h) hh])
                clear hh
                go_wp2_with fail
                have hS : Below w6.heap.size w6 wr.drew := HR.out.drew
                refine wp_region_held_drew (S := Below w6.heap.size w6) (by kernel_rfl) hS (fun _ => ?_)
                generalize wr.drew = W at *
                refine wpAnyH_take (oi := ⟨_, _, _, _, _, _⟩) (i := 0) (v := .pointer (some ⟨gr, 1, none⟩)) rfl (by kernel_rfl) (by kernel_rfl) (by kernel_rfl) (fun _ _ _ h => h) (Or.inl ⟨by rfl, ?_⟩) (by assumption) ?_
                · (intro W hSw; have x1 := (HRB2.out W hSw).cells.2.1; rw [← HSS.out] at x1; have y1 := HLC.out W hSw n hlt; rw [← htH.out] at y1; go_simp; try (with_reducible rfl))
                try simp only [Act.put, List.setIfInBounds_toArray, List.set_cons_zero, List.set_cons_succ]
                refine wpAnyH_take (oi := ⟨_, _, _, _, _, _⟩) (i := 1) (v := .string s) rfl (by kernel_rfl) (by kernel_rfl) (by kernel_rfl) (fun _ _ _ h => h) (Or.inl ⟨by rfl, ?_⟩) (by assumption) ?_
                · (intro W hSw; have x1 := (HRB2.out W hSw).cells.2.1; rw [← HSS.out] at x1; have y1 := HLC.out W hSw n hlt; rw [← htH.out] at y1; go_simp; try (with_reducible rfl))
                try simp only [Act.put, List.setIfInBounds_toArray, List.set_cons_zero, List.set_cons_succ]
                refine wpAnyH_take (oi := ⟨_, _, _, _, _, _⟩) (i := 2) (v := .slice (some ⟨g6, 0, none⟩) 8 8) rfl (by kernel_rfl) (by kernel_rfl) (by kernel_rfl) (fun _ _ _ h => h) (Or.inl ⟨by rfl, ?_⟩) (by assumption) ?_
                · (intro W hSw; have x1 := (HRB2.out W hSw).cells.2.1; rw [← HSS.out] at x1; have y1 := HLC.out W hSw n hlt; rw [← htH.out] at y1; go_simp; try (with_reducible rfl))
                try simp only [Act.put, List.setIfInBounds_toArray, List.set_cons_zero, List.set_cons_succ]
                refine wpAnyH_take (oi := ⟨_, _, _, _, _, _⟩) (i := 3) (v := .int .i64 (n : Int)) rfl (by kernel_rfl) (by kernel_rfl) (by kernel_rfl) (fun _ _ _ h => h) (Or.inl ⟨by rfl, ?_⟩) (by assumption) ?_
                · (intro W hSw; have x1 := (HRB2.out W hSw).cells.2.1; rw [← HSS.out] at x1; have y1 := HLC.out W hSw n hlt; rw [← htH.out] at y1; go_simp; try (with_reducible rfl))
                try simp only [Act.put, List.setIfInBounds_toArray, List.set_cons_zero, List.set_cons_succ]
                refine wpAnyH_take (oi := ⟨_, _, _, _, _, _⟩) (i := 4) (v := .pointer (some ⟨g6, n, none⟩)) rfl (by kernel_rfl) (by kernel_rfl) (by kernel_rfl) (fun _ _ _ h => h) (Or.inl ⟨by rfl, ?_⟩) (by assumption) ?_
                · (intro W hSw; have x1 := (HRB2.out W hSw).cells.2.1; rw [← HSS.out] at x1; have y1 := HLC.out W hSw n hlt; rw [← htH.out] at y1; go_simp; try (with_reducible rfl))
                try simp only [Act.put, List.setIfInBounds_toArray, List.set_cons_zero, List.set_cons_succ]
                refine wpAnyH_take (oi := ⟨_, _, _, _, _, _⟩) (i := 5) (v := .string t) rfl (by kernel_rfl) (by kernel_rfl) (by kernel_rfl) (fun _ _ _ h => h) (Or.inl ⟨by rfl, ?_⟩) (by assumption) ?_
                · (intro W hSw; have x1 := (HRB2.out W hSw).cells.2.1; rw [← HSS.out] at x1; have y1 := HLC.out W hSw n hlt; rw [← htH.out] at y1; go_simp; try (with_reducible rfl))
                try simp only [Act.put, List.setIfInBounds_toArray, List.set_cons_zero, List.set_cons_succ]
                refine wpAnyH_ready (rs := [6]) (by kernel_rfl) (by simp) ?_
                refine AllReadyH.cons (o := ⟨_, _, _, _, _, _⟩) rfl (fun K hK => ?_) ?_
                · go_simp
                  go_at_call 79
                  (with_reducible refine (HT _).out.mono ?_)
                  rintro e W1 ⟨rfl, hb⟩
                  replace hS := hS.trans (hb.mono hS.size)
                  clear hb
                  refine hK.out _ _ hS (fun _ => ?_)
                  clear hK K
                  try simp only [Act.put, List.setIfInBounds_toArray, List.set_cons_zero, List.set_cons_succ]
                  refine wpAnyH_done (by kernel_rfl) ?_ _
                  rcases (by omega : n = 0 ∨ n = 1 ∨ n = 2 ∨ n = 3 ∨ n = 4 ∨ n = 5 ∨ n = 6 ∨ n = 7) with rfl | rfl | rfl | rfl | rfl | rfl | rfl | rfl
                  · (go_wp2_with fail)
                    go_ret
                    exact ⟨by rw [HRES.out]; rfl, ((HB6.out.trans (hS.mono HB6.out.size)).alloc (by have := (HB6.out.trans (hS.mono HB6.out.size)).size; exact this) _)⟩
                  · (go_wp2_with fail)
                    go_ret
                    exact ⟨by rw [HRES.out]; rfl, ((HB6.out.trans (hS.mono HB6.out.size)).alloc (by have := (HB6.out.trans (hS.mono HB6.out.size)).size; exact this) _)⟩
                  · (go_wp2_with fail)
                    go_ret
                    exact ⟨by rw [HRES.out]; rfl, ((HB6.out.trans (hS.mono HB6.out.size)).alloc (by have := (HB6.out.trans (hS.mono HB6.out.size)).size; exact this) _)⟩
                  · (go_wp2_with fail)
                    go_ret
                    exact ⟨by rw [HRES.out]; rfl, ((HB6.out.trans (hS.mono HB6.out.size)).alloc (by have := (HB6.out.trans (hS.mono HB6.out.size)).size; exact this) _)⟩
                  · (go_wp2_with fail)
                    go_ret
                    exact ⟨by rw [HRES.out]; rfl, ((HB6.out.trans (hS.mono HB6.out.size)).alloc (by have := (HB6.out.trans (hS.mono HB6.out.size)).size; exact this) _)⟩
                  · (go_wp2_with fail)
                    go_ret
                    exact ⟨by rw [HRES.out]; rfl, ((HB6.out.trans (hS.mono HB6.out.size)).alloc (by have := (HB6.out.trans (hS.mono HB6.out.size)).size; exact this) _)⟩
                  · (go_wp2_with fail)
                    go_ret
                    exact ⟨by rw [HRES.out]; rfl, ((HB6.out.trans (hS.mono HB6.out.size)).alloc (by have := (HB6.out.trans (hS.mono HB6.out.size)).size; exact this) _)⟩
                  · (go_wp2_with fail)
                    go_ret
                    exact ⟨by rw [HRES.out]; rfl, ((HB6.out.trans (hS.mono HB6.out.size)).alloc (by have := (HB6.out.trans (hS.mono HB6.out.size)).size; exact this) _)⟩
                exact AllReadyH.nil
              | false =>
                rw [hh] at HT
                have hn1 : Hid (n + 1 ≤ 8 ∧ ∀ i, i < n + 1 → hasL nm (LS.getD i []) = false) := ⟨hlt, fun i hi => by
                  rcases Nat.lt_or_ge i n with h | h
                  · exact hn.out.2 i h
                  · obtain rfl : i = n := by omega
                    exact hh⟩
                clear hh
                go_wp2_with fail
                have hS : Below w6.heap.size w6 wr.drew := HR.out.drew
                refine wp_region_held_drew (S := Below w6.heap.size w6) (by kernel_rfl) hS (fun _ => ?_)
                generalize wr.drew = W at *
                refine wpAnyH_take (oi := ⟨_, _, _, _, _, _⟩) (i := 0) (v := .pointer (some ⟨gr, 1, none⟩)) rfl (by kernel_rfl) (by kernel_rfl) (by kernel_rfl) (fun _ _ _ h => h) (Or.inl ⟨by rfl, ?_⟩) (by assumption) ?_
                · (intro W hSw; have x1 := (HRB2.out W hSw).cells.2.1; rw [← HSS.out] at x1; have y1 := HLC.out W hSw n hlt; rw [← htH.out] at y1; go_simp; try (with_reducible rfl))
                try simp only [Act.put, List.setIfInBounds_toArray, List.set_cons_zero, List.set_cons_succ]
                refine wpAnyH_take (oi := ⟨_, _, _, _, _, _⟩) (i := 1) (v := .string s) rfl (by kernel_rfl) (by kernel_rfl) (by kernel_rfl) (fun _ _ _ h => h) (Or.inl ⟨by rfl, ?_⟩) (by assumption) ?_
                · (intro W hSw; have x1 := (HRB2.out W hSw).cells.2.1; rw [← HSS.out] at x1; have y1 := HLC.out W hSw n hlt; rw [← htH.out] at y1; go_simp; try (with_reducible rfl))
                try simp only [Act.put, List.setIfInBounds_toArray, List.set_cons_zero, List.set_cons_succ]
                refine wpAnyH_take (oi := ⟨_, _, _, _, _, _⟩) (i := 2) (v := .slice (some ⟨g6, 0, none⟩) 8 8) rfl (by kernel_rfl) (by kernel_rfl) (by kernel_rfl) (fun _ _ _ h => h) (Or.inl ⟨by rfl, ?_⟩) (by assumption) ?_
                · (intro W hSw; have x1 := (HRB2.out W hSw).cells.2.1; rw [← HSS.out] at x1; have y1 := HLC.out W hSw n hlt; rw [← htH.out] at y1; go_simp; try (with_reducible rfl))
                try simp only [Act.put, List.setIfInBounds_toArray, List.set_cons_zero, List.set_cons_succ]
                refine wpAnyH_take (oi := ⟨_, _, _, _, _, _⟩) (i := 3) (v := .int .i64 (n : Int)) rfl (by kernel_rfl) (by kernel_rfl) (by kernel_rfl) (fun _ _ _ h => h) (Or.inl ⟨by rfl, ?_⟩) (by assumption) ?_
                · (intro W hSw; have x1 := (HRB2.out W hSw).cells.2.1; rw [← HSS.out] at x1; have y1 := HLC.out W hSw n hlt; rw [← htH.out] at y1; go_simp; try (with_reducible rfl))
                try simp only [Act.put, List.setIfInBounds_toArray, List.set_cons_zero, List.set_cons_succ]
                refine wpAnyH_take (oi := ⟨_, _, _, _, _, _⟩) (i := 4) (v := .pointer (some ⟨g6, n, none⟩)) rfl (by kernel_rfl) (by kernel_rfl) (by kernel_rfl) (fun _ _ _ h => h) (Or.inl ⟨by rfl, ?_⟩) (by assumption) ?_
                · (intro W hSw; have x1 := (HRB2.out W hSw).cells.2.1; rw [← HSS.out] at x1; have y1 := HLC.out W hSw n hlt; rw [← htH.out] at y1; go_simp; try (with_reducible rfl))
                try simp only [Act.put, List.setIfInBounds_toArray, List.set_cons_zero, List.set_cons_succ]
                refine wpAnyH_take (oi := ⟨_, _, _, _, _, _⟩) (i := 5) (v := .string t) rfl (by kernel_rfl) (by kernel_rfl) (by kernel_rfl) (fun _ _ _ h => h) (Or.inl ⟨by rfl, ?_⟩) (by assumption) ?_
                · (intro W hSw; have x1 := (HRB2.out W hSw).cells.2.1; rw [← HSS.out] at x1; have y1 := HLC.out W hSw n hlt; rw [← htH.out] at y1; go_simp; try (with_reducible rfl))
                try simp only [Act.put, List.setIfInBounds_toArray, List.set_cons_zero, List.set_cons_succ]
                refine wpAnyH_ready (rs := [6]) (by kernel_rfl) (by simp) ?_
                refine AllReadyH.cons (o := ⟨_, _, _, _, _, _⟩) rfl (fun K hK => ?_) ?_
                · go_simp
                  go_at_call 79
                  (with_reducible refine (HT _).out.mono ?_)
                  rintro e W1 ⟨rfl, hb⟩
                  replace hS := hS.trans (hb.mono hS.size)
                  clear hb
                  refine hK.out _ _ hS (fun _ => ?_)
                  clear hK K
                  try simp only [Act.put, List.setIfInBounds_toArray, List.set_cons_zero, List.set_cons_succ]
                  refine wpAnyH_done (by kernel_rfl) ?_ _
                  (go_wp2_with fail)
                  go_roundw
                  case rel => exact ⟨n + 1, hn1.out, by go_num, hS⟩
                  case measure => (first | (simp [intOf]; done) | (simp [intOf]; omega))
                exact AllReadyH.nil
            · obtain rfl : n = 8 := by have := hn.out.1; omega
              have HE3 := hid (HN.out.trans (by rw [first_none nm LS 8 0 (fun j _ h => hn.out.2 j (by omega))] : _ = lastOf nm))
              have x1 := (HRB2.out _ HR.out).cells.2.1
              rw [← HSS.out] at x1
              have hsz : s.size = nm.length := by rw [HSS.out, str_size]
              have hs3 : (3 : Int) ≤ (nm.length : Int) := by omega
              have q0 : (s.extract 0 3).toList = nm.take 3 := by rw [HSS.out]; exact extract_str nm 0 3
              by_cases h1 : nm.take 3 = [105, 54, 52]
              · have q1 : ((s.extract 0 3).toList == [105, 54, 52]) = true := by rw [q0, h1]; rfl
                have HE4 := hid (show lastOf nm = 8 by unfold lastOf; rw [if_pos h1])
                clear q0 h1
                go_wp2
                go_ret
                exact ⟨by rw [HE.out, HE3.out, HE4.out]; rfl, HB6.out.trans (HR.out.mono HB6.out.size)⟩
              have q1 : ((s.extract 0 3).toList == [105, 54, 52]) = false := by rw [q0, beq_eq_false_iff_ne]; exact h1
              by_cases h2 : nm.take 3 = [102, 54, 52]
              · have q2 : ((s.extract 0 3).toList == [102, 54, 52]) = true := by rw [q0, h2]; rfl
                have HE4 := hid (show lastOf nm = 8 by unfold lastOf; rw [if_neg h1, if_pos h2])
                clear q0 h1 h2
                go_wp2
                go_ret
                exact ⟨by rw [HE.out, HE3.out, HE4.out]; rfl, HB6.out.trans (HR.out.mono HB6.out.size)⟩
              have q2 : ((s.extract 0 3).toList == [102, 54, 52]) = false := by rw [q0, beq_eq_false_iff_ne]; exact h2
              by_cases h3 : nm.take 3 = [118, 49, 50]
              · have q3 : ((s.extract 0 3).toList == [118, 49, 50]) = true := by rw [q0, h3]; rfl
                have HE4 := hid (show lastOf nm = 16 by unfold lastOf; rw [if_neg h1, if_neg h2, if_pos h3])
                clear q0 h1 h2 h3
                go_wp2
                go_ret
                exact ⟨by rw [HE.out, HE3.out, HE4.out]; rfl, HB6.out.trans (HR.out.mono HB6.out.size)⟩
              have q3 : ((s.extract 0 3).toList == [118, 49, 50]) = false := by rw [q0, beq_eq_false_iff_ne]; exact h3
              have HE4 := hid (show lastOf nm = 4 by unfold lastOf; rw [if_neg h1, if_neg h2, if_neg h3])
              clear q0 h1 h2 h3
              go_wp2
              go_ret
              exact ⟨by rw [HE.out, HE3.out, HE4.out]; rfl, HB6.out.trans (HR.out.mono HB6.out.size)⟩
        · clear hs
          have HE3 := hid (show bytesN nm = 8 from HN.out)
          go_wp2_with (first
            | (go_at_call 79; ((with_reducible refine (H1 _).out.mono ?_); rintro e w5 ⟨rfl, hb⟩; replace hB := hB.trans (hb.mono hB.size); clear hb; have x1 := (HRB.out _ hB).cells.2.1; rw [← HSS.out] at x1))
            | (go_at_call 79; ((with_reducible refine (H2 _).out.mono ?_); rintro e w5 ⟨rfl, hb⟩; replace hB := hB.trans (hb.mono hB.size); clear hb; have x1 := (HRB.out _ hB).cells.2.1; rw [← HSS.out] at x1))
            | (go_at_call 79; ((with_reducible refine (H3 _).out.mono ?_); rintro e w5 ⟨rfl, hb⟩; replace hB := hB.trans (hb.mono hB.size); clear hb; have x1 := (HRB.out _ hB).cells.2.1; rw [← HSS.out] at x1)))
          go_ret
          exact ⟨by rw [HE.out, HE3.out]; rfl, HB4.out.trans (hB.mono HB4.out.size)⟩
      · clear hs
        have HE3 := hid (show bytesN nm = 8 from HN.out)
        go_wp2_with (first
          | (go_at_call 79; ((with_reducible refine (H1 _).out.mono ?_); rintro e w5 ⟨rfl, hb⟩; replace hB := hB.trans (hb.mono hB.size); clear hb; have x1 := (HRB.out _ hB).cells.2.1; rw [← HSS.out] at x1))
          | (go_at_call 79; ((with_reducible refine (H2 _).out.mono ?_); rintro e w5 ⟨rfl, hb⟩; replace hB := hB.trans (hb.mono hB.size); clear hb; have x1 := (HRB.out _ hB).cells.2.1; rw [← HSS.out] at x1))
          | (go_at_call 79; ((with_reducible refine (H3 _).out.mono ?_); rintro e w5 ⟨rfl, hb⟩; replace hB := hB.trans (hb.mono hB.size); clear hb; have x1 := (HRB.out _ hB).cells.2.1; rw [← HSS.out] at x1)))
        go_ret
        exact ⟨by rw [HE.out, HE3.out]; rfl, HB4.out.trans (hB.mono HB4.out.size)⟩
    · clear hs
      have HE3 := hid (show bytesN nm = 8 from HN.out)
      go_wp2_with (first
        | (go_at_call 79; ((with_reducible refine (H1 _).out.mono ?_); rintro e w5 ⟨rfl, hb⟩; replace hB := hB.trans (hb.mono hB.size); clear hb; have x1 := (HRB.out _ hB).cells.2.1; rw [← HSS.out] at x1))
        | (go_at_call 79; ((with_reducible refine (H2 _).out.mono ?_); rintro e w5 ⟨rfl, hb⟩; replace hB := hB.trans (hb.mono hB.size); clear hb; have x1 := (HRB.out _ hB).cells.2.1; rw [← HSS.out] at x1))
        | (go_at_call 79; ((with_reducible refine (H3 _).out.mono ?_); rintro e w5 ⟨rfl, hb⟩; replace hB := hB.trans (hb.mono hB.size); clear hb; have x1 := (HRB.out _ hB).cells.2.1; rw [← HSS.out] at x1)))
      go_ret
      exact ⟨by rw [HE.out, HE3.out]; rfl, HB4.out.trans (hB.mono HB4.out.size)⟩
end Go.Proofs.YtlhakbkdlgejpaaGreatDoor
namespace Go.Proofs.YtlhakbkdlgejpaaGreatDoor
open Go.RowKit
set_option maxHeartbeats 4000000 in
set_option maxRecDepth 100000 in
theorem RLanes_says (op : Int) (w : World) : Calls Tryz.prog 37 #[.int .i64 op] w fun e w' => e = .returned (.int .i64 (refLanes (ofL op))) ∧ Below w.heap.size w w' := by
  obtain ⟨ro, nm, im, tk, lv, fx, hr⟩ : ∃ ro nm im tk lv fx, ofL op = (ro, nm, im, tk, lv, fx) := ⟨_, _, _, _, _, _, rfl⟩
  obtain ⟨_, _, hnl, _, hpos⟩ := agreeP_parts op hr
  dsimp only at hnl hpos
  have HOf := fun W => hid (Of_says op W)
  have HBy := fun W => hid (Bytes_says op W)
  rw [hr] at HOf HBy
  have HBT := hid (show refLanes (ofL op) = refLanes (ro, nm, im, tk, lv, fx) by rw [hr])
  obtain ⟨q, hq⟩ : ∃ q, q = bytesL (ro, nm, im, tk, lv, fx) := ⟨_, rfl⟩
  rw [← hq] at HBy hpos
  have HQ := hid hq
  have HPOS := hid hpos
  have hNL := hid hnl
  clear hr hpos hnl hq
  rename_i q1 q2 q3
  clear q1 q2 q3
  go_enter Tryz.func37, Tryz.ntmps37
  go_upto_region 2 with (go_at_call 23; refine (HOf _).out.mono ?_; rintro e w3 ⟨rfl, hb⟩; unfold rwV)
  have HB3 := hid hb
  clear hb HOf
  have HR4 : Hid (RB w3.heap.size (ro, nm, im, tk, lv, fx) (w3.alloc (.cells (rwCells (ro, nm, im, tk, lv, fx)) 36))) := RB.newr _ _
  have HB4 := hid (HB3.out.alloc HB3.out.size (.cells (rwCells (ro, nm, im, tk, lv, fx)) 36))
  simp only [rwCells] at HR4 HB4
  generalize w3.alloc (.cells #[.int .i64 ro, .string (str nm), .int .i64 im, .string (str tk), .string (str lv), .bool fx] 36) = w4 at *
  generalize w3.heap.size = gr at *
  clear HB3
  obtain ⟨x0, x1, x2, x3, x4, x5⟩ := HR4.out.cells
  clear x3 x4 x5
  by_cases h0 : ro < 0
  · have HE := hid (show refLanes (ofL op) = 0 by rw [HBT.out]; unfold refLanes; rw [if_pos h0])
    go_wp2
    go_ret
    exact ⟨by rw [HE.out]; rfl, HB4.out⟩
  by_cases h24 : im = 24
  · subst h24
    have HE := hid (show refLanes (ofL op) = 32 by rw [HBT.out]; unfold refLanes; rw [if_neg h0]; rfl)
    go_wp2
    go_ret
    exact ⟨by rw [HE.out]; rfl, HB4.out⟩
  by_cases h26 : im = 26
  · subst h26
    have hqp : 0 < q := HPOS.out (by omega) rfl
    have HE := hid (show refLanes (ofL op) = 16 / q by rw [HBT.out, HQ.out, ← Int.tdiv_eq_ediv_of_nonneg (by decide : (0 : Int) ≤ 16)]; unfold refLanes; rw [if_neg h0]; rfl)
    have hq0 : ¬ q = 0 := by omega
    have hq1 : (q == 0) = false := by simp; omega
    have hdb : 0 ≤ 16 / q ∧ 16 / q ≤ 16 := ⟨Int.ediv_nonneg (by decide) (by omega), Int.ediv_le_self _ (by decide)⟩
    have hwt : wrap64 (16 / q) = 16 / q := by unfold wrap64; omega
    have HW := hid hwt
    have HW2 := hid hdb
    clear h24 hdb
    go_wp2_with (go_at_call 78; refine (HBy _).out.mono ?_; rintro e w5 ⟨rfl, hb⟩)
    go_ret
    exact ⟨by rw [HE.out]; rfl, HB4.out.trans (hb.mono HB4.out.size)⟩
  have g24 : (im == 24) = false := beq_eq_false_iff_ne.2 h24
  have g26 : (im == 26) = false := beq_eq_false_iff_ne.2 h26
  by_cases h25 : im = 25
  · have HN := hid (show refLanes (ofL op) = (match firstOf nm SH 0 6 with | some i => SN.getD i 0 | none => 0) by rw [HBT.out]; unfold refLanes; rw [if_neg h0, if_neg h24, if_neg h26, if_pos h25]; rfl)
    subst h25
    clear h24 h26 g24 g26
    have HRB : Hid (∀ W, Below w4.heap.size w4 W → RB gr (ro, nm, 25, tk, lv, fx) W) := fun W h => HR4.out.call h
    have hB := Below.refl w4.heap.size w4
    obtain ⟨s, hs⟩ : ∃ s, s = str nm := ⟨_, rfl⟩
    have HSS := hid hs
    rw [← hs] at x1
    clear hs
    go_upto_region 11 with fail
    have HLC : Hid (∀ W, Below (w4.alloc (.cells #[.string ⟨#[105, 56, 120, 49, 54]⟩, .string ⟨#[105, 49, 54, 120, 56]⟩, .string ⟨#[105, 51, 50, 120, 52]⟩, .string ⟨#[105, 54, 52, 120, 50]⟩, .string ⟨#[102, 51, 50, 120, 52]⟩, .string ⟨#[102, 54, 52, 120, 50]⟩] 9)).heap.size (w4.alloc (.cells #[.string ⟨#[105, 56, 120, 49, 54]⟩, .string ⟨#[105, 49, 54, 120, 56]⟩, .string ⟨#[105, 51, 50, 120, 52]⟩, .string ⟨#[105, 54, 52, 120, 50]⟩, .string ⟨#[102, 51, 50, 120, 52]⟩, .string ⟨#[102, 54, 52, 120, 50]⟩] 9)) W → ∀ i, i < 6 → W.cell? ⟨w4.heap.size, i, none⟩ = some (.string (str (SH.getD i [])))) := fun W h i hi => by
      rw [h.cell (p := ⟨w4.heap.size, i, none⟩) (by simp)]
      exact lit_cell w4 SH i hi
    have HB6 := hid ((HB4.out).alloc HB4.out.size (.cells #[.string ⟨#[105, 56, 120, 49, 54]⟩, .string ⟨#[105, 49, 54, 120, 56]⟩, .string ⟨#[105, 51, 50, 120, 52]⟩, .string ⟨#[105, 54, 52, 120, 50]⟩, .string ⟨#[102, 51, 50, 120, 52]⟩, .string ⟨#[102, 54, 52, 120, 50]⟩] 9))
    have HRB2 : Hid (∀ W, Below (w4.alloc (.cells #[.string ⟨#[105, 56, 120, 49, 54]⟩, .string ⟨#[105, 49, 54, 120, 56]⟩, .string ⟨#[105, 51, 50, 120, 52]⟩, .string ⟨#[105, 54, 52, 120, 50]⟩, .string ⟨#[102, 51, 50, 120, 52]⟩, .string ⟨#[102, 54, 52, 120, 50]⟩] 9)).heap.size (w4.alloc (.cells #[.string ⟨#[105, 56, 120, 49, 54]⟩, .string ⟨#[105, 49, 54, 120, 56]⟩, .string ⟨#[105, 51, 50, 120, 52]⟩, .string ⟨#[105, 54, 52, 120, 50]⟩, .string ⟨#[102, 51, 50, 120, 52]⟩, .string ⟨#[102, 54, 52, 120, 50]⟩] 9)) W → RB gr (ro, nm, 25, tk, lv, fx) W) := fun W h => (HRB.out _ (hB.alloc hB.size _)).call h
    generalize w4.alloc (.cells #[.string ⟨#[105, 56, 120, 49, 54]⟩, .string ⟨#[105, 49, 54, 120, 56]⟩, .string ⟨#[105, 51, 50, 120, 52]⟩, .string ⟨#[105, 54, 52, 120, 50]⟩, .string ⟨#[102, 51, 50, 120, 52]⟩, .string ⟨#[102, 54, 52, 120, 50]⟩] 9) = w6 at *
    generalize w4.heap.size = g6 at *
    go_wp2
    go_loopw [5] (fun vi wr => ∃ n : Nat, Hid (n ≤ 6 ∧ ∀ i, i < n → hasL nm (SH.getD i []) = false) ∧ vi = .int .i64 n ∧ Hid (Below w6.heap.size w6 wr)) (fun vi _ => 7 - (intOf vi).toNat)
    case atStart => exact ⟨0, ⟨Nat.zero_le _, fun i hi => by omega⟩, rfl, Below.refl _ _⟩
    case round =>
      obtain ⟨n, hn, rfl, HR⟩ := hrel
      by_cases hlt : n < 6
      · obtain ⟨t, ht⟩ : ∃ t, t = str (SH.getD n []) := ⟨_, rfl⟩
        have htH := hid ht
        have hlen : ∀ k, k < 6 → (SH.getD k []).length ≤ 100 := by decide
        have HT := fun W => hid (has_says nm (SH.getD n []) hNL.out (hlen n hlt) W)
        rw [← ht, ← HSS.out] at HT
        clear ht hlen
        cases hh : hasL nm (SH.getD n []) with
        | true =>
          rw [hh] at HT
          have HRES := hid (show refLanes (ofL op) = SN.getD n 0 by rw [HN.out, first_some nm SH 6 0 n (Nat.zero_le _) (by omega) (fun j _ h => hn.out.2 j h) hh])
          clear hh
          go_wp2_with fail
          have hS : Below w6.heap.size w6 wr.drew := HR.out.drew
          refine wp_region_held_drew (S := Below w6.heap.size w6) (by kernel_rfl) hS (fun _ => ?_)
          generalize wr.drew = W at *
          refine wpAnyH_take (oi := ⟨_, _, _, _, _, _⟩) (i := 0) (v := .pointer (some ⟨gr, 1, none⟩)) rfl (by kernel_rfl) (by kernel_rfl) (by kernel_rfl) (fun _ _ _ h => h) (Or.inl ⟨by rfl, ?_⟩) (by assumption) ?_
          · (intro W hSw; have x1 := (HRB2.out W hSw).cells.2.1; rw [← HSS.out] at x1; have y1 := HLC.out W hSw n hlt; rw [← htH.out] at y1; go_simp; try (with_reducible rfl))
          try simp only [Act.put, List.setIfInBounds_toArray, List.set_cons_zero, List.set_cons_succ]
          refine wpAnyH_take (oi := ⟨_, _, _, _, _, _⟩) (i := 1) (v := .string s) rfl (by kernel_rfl) (by kernel_rfl) (by kernel_rfl) (fun _ _ _ h => h) (Or.inl ⟨by rfl, ?_⟩) (by assumption) ?_
          · (intro W hSw; have x1 := (HRB2.out W hSw).cells.2.1; rw [← HSS.out] at x1; have y1 := HLC.out W hSw n hlt; rw [← htH.out] at y1; go_simp; try (with_reducible rfl))
          try simp only [Act.put, List.setIfInBounds_toArray, List.set_cons_zero, List.set_cons_succ]
          refine wpAnyH_take (oi := ⟨_, _, _, _, _, _⟩) (i := 2) (v := .slice (some ⟨g6, 0, none⟩) 6 6) rfl (by kernel_rfl) (by kernel_rfl) (by kernel_rfl) (fun _ _ _ h => h) (Or.inl ⟨by rfl, ?_⟩) (by assumption) ?_
          · (intro W hSw; have x1 := (HRB2.out W hSw).cells.2.1; rw [← HSS.out] at x1; have y1 := HLC.out W hSw n hlt; rw [← htH.out] at y1; go_simp; try (with_reducible rfl))
          try simp only [Act.put, List.setIfInBounds_toArray, List.set_cons_zero, List.set_cons_succ]
          refine wpAnyH_take (oi := ⟨_, _, _, _, _, _⟩) (i := 3) (v := .int .i64 (n : Int)) rfl (by kernel_rfl) (by kernel_rfl) (by kernel_rfl) (fun _ _ _ h => h) (Or.inl ⟨by rfl, ?_⟩) (by assumption) ?_
          · (intro W hSw; have x1 := (HRB2.out W hSw).cells.2.1; rw [← HSS.out] at x1; have y1 := HLC.out W hSw n hlt; rw [← htH.out] at y1; go_simp; try (with_reducible rfl))
          try simp only [Act.put, List.setIfInBounds_toArray, List.set_cons_zero, List.set_cons_succ]
          refine wpAnyH_take (oi := ⟨_, _, _, _, _, _⟩) (i := 4) (v := .pointer (some ⟨g6, n, none⟩)) rfl (by kernel_rfl) (by kernel_rfl) (by kernel_rfl) (fun _ _ _ h => h) (Or.inl ⟨by rfl, ?_⟩) (by assumption) ?_
          · (intro W hSw; have x1 := (HRB2.out W hSw).cells.2.1; rw [← HSS.out] at x1; have y1 := HLC.out W hSw n hlt; rw [← htH.out] at y1; go_simp; try (with_reducible rfl))
          try simp only [Act.put, List.setIfInBounds_toArray, List.set_cons_zero, List.set_cons_succ]
          refine wpAnyH_take (oi := ⟨_, _, _, _, _, _⟩) (i := 5) (v := .string t) rfl (by kernel_rfl) (by kernel_rfl) (by kernel_rfl) (fun _ _ _ h => h) (Or.inl ⟨by rfl, ?_⟩) (by assumption) ?_
          · (intro W hSw; have x1 := (HRB2.out W hSw).cells.2.1; rw [← HSS.out] at x1; have y1 := HLC.out W hSw n hlt; rw [← htH.out] at y1; go_simp; try (with_reducible rfl))
          try simp only [Act.put, List.setIfInBounds_toArray, List.set_cons_zero, List.set_cons_succ]
          refine wpAnyH_ready (rs := [6]) (by kernel_rfl) (by simp) ?_
          refine AllReadyH.cons (o := ⟨_, _, _, _, _, _⟩) rfl (fun K hK => ?_) ?_
          · go_simp
            go_at_call 79
            (with_reducible refine (HT _).out.mono ?_)
            rintro e W1 ⟨rfl, hb⟩
            replace hS := hS.trans (hb.mono hS.size)
            clear hb
            refine hK.out _ _ hS (fun _ => ?_)
            clear hK K
            try simp only [Act.put, List.setIfInBounds_toArray, List.set_cons_zero, List.set_cons_succ]
            refine wpAnyH_done (by kernel_rfl) ?_ _
            rcases (by omega : n = 0 ∨ n = 1 ∨ n = 2 ∨ n = 3 ∨ n = 4 ∨ n = 5) with rfl | rfl | rfl | rfl | rfl | rfl
            · (go_wp2_with fail)
              go_ret
              exact ⟨by rw [HRES.out]; rfl, ((HB6.out.trans (hS.mono HB6.out.size)).alloc (by have := (HB6.out.trans (hS.mono HB6.out.size)).size; exact this) _)⟩
            · (go_wp2_with fail)
              go_ret
              exact ⟨by rw [HRES.out]; rfl, ((HB6.out.trans (hS.mono HB6.out.size)).alloc (by have := (HB6.out.trans (hS.mono HB6.out.size)).size; exact this) _)⟩
            · (go_wp2_with fail)
              go_ret
              exact ⟨by rw [HRES.out]; rfl, ((HB6.out.trans (hS.mono HB6.out.size)).alloc (by have := (HB6.out.trans (hS.mono HB6.out.size)).size; exact this) _)⟩
            · (go_wp2_with fail)
              go_ret
              exact ⟨by rw [HRES.out]; rfl, ((HB6.out.trans (hS.mono HB6.out.size)).alloc (by have := (HB6.out.trans (hS.mono HB6.out.size)).size; exact this) _)⟩
            · (go_wp2_with fail)
              go_ret
              exact ⟨by rw [HRES.out]; rfl, ((HB6.out.trans (hS.mono HB6.out.size)).alloc (by have := (HB6.out.trans (hS.mono HB6.out.size)).size; exact this) _)⟩
            · (go_wp2_with fail)
              go_ret
              exact ⟨by rw [HRES.out]; rfl, ((HB6.out.trans (hS.mono HB6.out.size)).alloc (by have := (HB6.out.trans (hS.mono HB6.out.size)).size; exact this) _)⟩
          exact AllReadyH.nil
        | false =>
          rw [hh] at HT
          have hn1 : Hid (n + 1 ≤ 6 ∧ ∀ i, i < n + 1 → hasL nm (SH.getD i []) = false) := ⟨hlt, fun i hi => by
            rcases Nat.lt_or_ge i n with h | h
            · exact hn.out.2 i h
            · obtain rfl : i = n := by omega
              exact hh⟩
          clear hh
          go_wp2_with fail
          have hS : Below w6.heap.size w6 wr.drew := HR.out.drew
          refine wp_region_held_drew (S := Below w6.heap.size w6) (by kernel_rfl) hS (fun _ => ?_)
          generalize wr.drew = W at *
          refine wpAnyH_take (oi := ⟨_, _, _, _, _, _⟩) (i := 0) (v := .pointer (some ⟨gr, 1, none⟩)) rfl (by kernel_rfl) (by kernel_rfl) (by kernel_rfl) (fun _ _ _ h => h) (Or.inl ⟨by rfl, ?_⟩) (by assumption) ?_
          · (intro W hSw; have x1 := (HRB2.out W hSw).cells.2.1; rw [← HSS.out] at x1; have y1 := HLC.out W hSw n hlt; rw [← htH.out] at y1; go_simp; try (with_reducible rfl))
          try simp only [Act.put, List.setIfInBounds_toArray, List.set_cons_zero, List.set_cons_succ]
          refine wpAnyH_take (oi := ⟨_, _, _, _, _, _⟩) (i := 1) (v := .string s) rfl (by kernel_rfl) (by kernel_rfl) (by kernel_rfl) (fun _ _ _ h => h) (Or.inl ⟨by rfl, ?_⟩) (by assumption) ?_
          · (intro W hSw; have x1 := (HRB2.out W hSw).cells.2.1; rw [← HSS.out] at x1; have y1 := HLC.out W hSw n hlt; rw [← htH.out] at y1; go_simp; try (with_reducible rfl))
          try simp only [Act.put, List.setIfInBounds_toArray, List.set_cons_zero, List.set_cons_succ]
          refine wpAnyH_take (oi := ⟨_, _, _, _, _, _⟩) (i := 2) (v := .slice (some ⟨g6, 0, none⟩) 6 6) rfl (by kernel_rfl) (by kernel_rfl) (by kernel_rfl) (fun _ _ _ h => h) (Or.inl ⟨by rfl, ?_⟩) (by assumption) ?_
          · (intro W hSw; have x1 := (HRB2.out W hSw).cells.2.1; rw [← HSS.out] at x1; have y1 := HLC.out W hSw n hlt; rw [← htH.out] at y1; go_simp; try (with_reducible rfl))
          try simp only [Act.put, List.setIfInBounds_toArray, List.set_cons_zero, List.set_cons_succ]
          refine wpAnyH_take (oi := ⟨_, _, _, _, _, _⟩) (i := 3) (v := .int .i64 (n : Int)) rfl (by kernel_rfl) (by kernel_rfl) (by kernel_rfl) (fun _ _ _ h => h) (Or.inl ⟨by rfl, ?_⟩) (by assumption) ?_
          · (intro W hSw; have x1 := (HRB2.out W hSw).cells.2.1; rw [← HSS.out] at x1; have y1 := HLC.out W hSw n hlt; rw [← htH.out] at y1; go_simp; try (with_reducible rfl))
          try simp only [Act.put, List.setIfInBounds_toArray, List.set_cons_zero, List.set_cons_succ]
          refine wpAnyH_take (oi := ⟨_, _, _, _, _, _⟩) (i := 4) (v := .pointer (some ⟨g6, n, none⟩)) rfl (by kernel_rfl) (by kernel_rfl) (by kernel_rfl) (fun _ _ _ h => h) (Or.inl ⟨by rfl, ?_⟩) (by assumption) ?_
          · (intro W hSw; have x1 := (HRB2.out W hSw).cells.2.1; rw [← HSS.out] at x1; have y1 := HLC.out W hSw n hlt; rw [← htH.out] at y1; go_simp; try (with_reducible rfl))
          try simp only [Act.put, List.setIfInBounds_toArray, List.set_cons_zero, List.set_cons_succ]
          refine wpAnyH_take (oi := ⟨_, _, _, _, _, _⟩) (i := 5) (v := .string t) rfl (by kernel_rfl) (by kernel_rfl) (by kernel_rfl) (fun _ _ _ h => h) (Or.inl ⟨by rfl, ?_⟩) (by assumption) ?_
          · (intro W hSw; have x1 := (HRB2.out W hSw).cells.2.1; rw [← HSS.out] at x1; have y1 := HLC.out W hSw n hlt; rw [← htH.out] at y1; go_simp; try (with_reducible rfl))
          try simp only [Act.put, List.setIfInBounds_toArray, List.set_cons_zero, List.set_cons_succ]
          refine wpAnyH_ready (rs := [6]) (by kernel_rfl) (by simp) ?_
          refine AllReadyH.cons (o := ⟨_, _, _, _, _, _⟩) rfl (fun K hK => ?_) ?_
          · go_simp
            go_at_call 79
            (with_reducible refine (HT _).out.mono ?_)
            rintro e W1 ⟨rfl, hb⟩
            replace hS := hS.trans (hb.mono hS.size)
            clear hb
            refine hK.out _ _ hS (fun _ => ?_)
            clear hK K
            try simp only [Act.put, List.setIfInBounds_toArray, List.set_cons_zero, List.set_cons_succ]
            refine wpAnyH_done (by kernel_rfl) ?_ _
            (go_wp2_with fail)
            go_roundw
            case rel => exact ⟨n + 1, hn1.out, by go_num, hS⟩
            case measure => (first | (simp [intOf]; done) | (simp [intOf]; omega))
          exact AllReadyH.nil
      · obtain rfl : n = 6 := by have := hn.out.1; omega
        have HE3 := hid (HN.out.trans (by rw [first_none nm SH 6 0 (fun j _ h => hn.out.2 j (by omega))] : _ = (0 : Int)))
        go_wp2
        go_ret
        exact ⟨by rw [HE3.out]; rfl, HB6.out.trans (HR.out.mono HB6.out.size)⟩
  · have HE := hid (show refLanes (ofL op) = 0 by rw [HBT.out]; unfold refLanes; rw [if_neg h0, if_neg h24, if_neg h26, if_neg h25])
    have g25 : (im == 25) = false := beq_eq_false_iff_ne.2 h25
    clear h24 h25 h26
    go_wp2
    go_ret
    exact ⟨by rw [HE.out]; rfl, HB4.out⟩
end Go.Proofs.YtlhakbkdlgejpaaGreatDoor
