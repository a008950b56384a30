/-
  SDo, SRef1: merged (each text says what it holds where it lies in wip). No condition.
-/
import Derived.Test.YtlhakbkdlgejpaaGreatDoorB06
set_option linter.unusedSimpArgs false
set_option linter.unusedVariables false
set_option maxRecDepth 100000
namespace Go.Proofs.YtlhakbkdlgejpaaGreatDoor.Sc
open Go.RowKit

def opn (l : List Av) (j : Nat) : Nat := match l[j]? with | some a => cutT a.1 a.2.1 | none => 0
def sel (l : List Av) (i j : Nat) : Nat := if j < i then opn l j else 0
theorem sel_end (l : List Av) (j : Nat) : sel l l.length j = opn l j := by
  unfold sel
  split
  · rfl
  · rename_i h
    unfold opn
    rw [List.getElem?_eq_none (by omega)]
theorem sel_next (l : List Av) (i : Nat) (hi : i < 2) (a : Av) (h : l[i]? = some a) : (#[.int .u64 (sel l i 0 : Nat), .int .u64 (sel l i 1 : Nat)] : Array Value).setIfInBounds i (.int .u64 (cutT a.1 a.2.1 : Nat)) = #[.int .u64 (sel l (i + 1) 0 : Nat), .int .u64 (sel l (i + 1) 1 : Nat)] := by
  have e : opn l i = cutT a.1 a.2.1 := by unfold opn; rw [h]
  rcases (show i = 0 ∨ i = 1 by omega) with rfl | rfl
  · simp [sel, ← e]
  · simp [sel, ← e]
def doV (t : Int) (x : Nat) (e : Nat) : Value := if e = 0 then vv t (cutT t x) 0 false else vv 0 0 0 false

set_option maxHeartbeats 8000000 in
set_option maxRecDepth 100000 in
theorem SDo_says (op : Int) (hN : (69 ≤ op ∧ op ≤ 196) ∨ (64512 ≤ op ∧ op ≤ 64519)) (l : List Av) (hl1 : 1 ≤ l.length) (hl2 : l.length ≤ 2) (hla : laL op = l.map (·.1)) (t : Int) (hlb : lbL op = [t])
    (va : Value) (w : World) (hg : GlobF w) (ha : AR w va l) (x : Nat) (e2 : Nat) (HR : AnsG 50 #[.int .i64 op, .int .u64 (opn l 0 : Nat), .int .u64 (opn l 1 : Nat)] (.tuple #[.int .u64 x, .int .i64 e2])) :
    Calls Tryz.prog 26 #[.int .i64 op, .slice none 0 0, va] w fun e w' => e = .returned (.tuple #[doV t x e2, .int .i64 e2]) ∧ Below w.heap.size w w' := by
  have HN := fun W => hid (Num_says op hN W)
  have HSG := fun W (h : GlobF W) => hid (Sign_any op W h.g)
  rw [hla, hlb] at HSG
  have hlm : (l.map (·.1)).length = l.length := List.length_map _
  have HRR := fun W h => hid (HR W h)
  have HCX := fun W => hid (cut_says t x W)
  have HCUT : ∀ (j : Nat) (a : Av), l[j]? = some a → ∀ W, Hid (Calls Tryz.prog 49 #[.int .i64 a.1, .int .u64 a.2.1] W fun e w' => e = .returned (.int .u64 (cutT a.1 a.2.1 : Nat)) ∧ W = w') := fun j a hj W => cut_says a.1 a.2.1 W
  have HGL := hid hg
  have HA := hid ha
  have HSE := hid (sel_end l)
  have HSN := hid (sel_next l)
  have d0 : decide (64768 ≤ op) = false := by simp; omega
  have HEF : ∀ (g2 c2 : Nat) (W : World), AR W va l → g2 < W.heap.size → (∀ j a, l[j]? = some a → W.cell? ⟨g2, j, none⟩ = some (.int .i64 a.1)) → Hid (Calls Tryz.prog 47 #[va, .slice (some ⟨g2, 0, none⟩) l.length c2, .func (.func 48) #[] #[]] W fun e w' => e = .returned (.bool true) ∧ Below W.heap.size W w') := fun g2 c2 W h1 h2 h3 => EF_says l hl1 (by omega) va g2 c2 W h1 h2 h3
  generalize fxB (lineL op) = fx at *
  obtain ⟨n, hn⟩ : ∃ n, n = l.length := ⟨_, rfl⟩
  rw [← hn] at hl1 hl2 hlm HEF HSE
  have HNN := hid hn
  have HD0 : Hid (doV t x 0 = vv t (cutT t x) 0 false) := rfl
  have HDE : Hid (e2 ≠ 0 → doV t x e2 = vv 0 0 0 false) := fun h => if_neg h
  unfold vv at HD0 HDE
  obtain ⟨CT, hCT⟩ : ∃ c, c = cutT t x := ⟨_, rfl⟩
  rw [← hCT] at HCX HD0
  clear hN hla hlb HR ha hg hn hCT
  go_enter Tryz.func26, Tryz.ntmps26
  go_upto_region 6 with (first
    | (go_at_call 24; refine (HN _).out.mono ?_; rintro e w1 ⟨rfl, rfl⟩)
    | (go_at_call 33; refine (HSG _ (HGL.out.next ((Below.refl _ w).alloc (Nat.le_refl _) _))).out.mono ?_; rintro e w2 ⟨v1, v2, B2, rfl, ho1, ho2, hB2, hsep, hb⟩; have HL1 := hid ho1; have HL2 := hid ho2; have HR2 := hid (below_new hb); have HBB := hid hB2; clear hb hB2 hsep ho1 ho2))
  obtain ⟨gs, cs, rfl⟩ : ∃ g cap, v1 = .slice (some ⟨g, 0, none⟩) (l.map (·.1)).length cap := owned_at HL1.out (by rw [hlm]; exact hl1)
  obtain ⟨gt, ct, rfl⟩ : ∃ g cap, v2 = .slice (some ⟨g, 0, none⟩) 1 cap := owned_at HL2.out (Nat.le_refl _)
  rw [hlm]
  have k0 : w2.cell? ⟨gt, 0, none⟩ = some (.int .i64 t) := HL2.out.cellAt 0 (by decide)
  have hgt : gt < w2.heap.size := (HL2.out.lt gt rfl).2
  have hgs : gs < w2.heap.size := (HL1.out.lt gs rfl).2
  have hne : w.heap.size ≠ gt := by
    have h1 := (HL2.out.lt gt rfl).1
    have h2 := HBB.out
    rw [size_al] at h2
    omega
  have HTC : ∀ j a, l[j]? = some a → w2.cell? ⟨gs, j, none⟩ = some (.int .i64 a.1) := fun j a hj => by
    have hjl : j < l.length := (List.getElem?_eq_some_iff.1 hj).1
    rw [HL1.out.cellAt j (by rw [List.length_map]; omega)]
    simp [ic, hj]
  have HEF2 := HEF gs cs w2 (HA.out.call HR2.out.2) hgs HTC
  clear HEF HTC HL1 HL2
  go_upto_region 8 with (go_at_call 47; (with_reducible refine HEF2.out.mono ?_); rintro e w3 ⟨rfl, hb3⟩; have HB3 := hid hb3; clear hb3)
  have k3 : w3.cell? ⟨gt, 0, none⟩ = some (.int .i64 t) := (HB3.out.cell (p := ⟨gt, 0, none⟩) hgt).trans k0
  have hgt3 : gt < w3.heap.size := Nat.lt_of_lt_of_le hgt HB3.out.size
  have HRS : Hid (CA w.heap.size #[.int .i64 0, .int .u64 0, .int .u64 0, .bool false] 24 w3) := HR2.out.1.call HB3.out
  have HBW : Hid (Below w.heap.size w w3) := HR2.out.2.trans (HB3.out.mono HR2.out.2.size)
  have HA3 := hid (HA.out.call HBW.out)
  clear HR2 HB3 HEF2 k0 hgs HSG HN HA
  obtain ⟨ga, ca, rfl, hga, hca, hata⟩ := HA3.out
  have HAT := hid hata
  rw [← HNN.out] at hca ⊢
  clear hata HA3
  go_upto_region 9 with fail
  have HST : Hid (Below w3.heap.size w3 (w3.alloc (.cells #[.int .u64 0, .int .u64 0] 65)) ∧ CA w3.heap.size #[.int .u64 (sel l 0 0 : Nat), .int .u64 (sel l 0 1 : Nat)] 65 (w3.alloc (.cells #[.int .u64 0, .int .u64 0] 65))) := ⟨(Below.refl _ _).alloc (Nat.le_refl _) _, CA.new w3 _ 65⟩
  generalize w3.alloc (.cells #[.int .u64 0, .int .u64 0] 65) = w4 at *
  go_wp2
  go_loopw [46] (fun vi wr => ∃ i : Nat, i ≤ n ∧ vi = .int .i64 i ∧ Hid (Below w3.heap.size w3 wr ∧ CA w3.heap.size #[.int .u64 (sel l i 0 : Nat), .int .u64 (sel l i 1 : Nat)] 65 wr)) (fun vi _ => n - (intOf vi).toNat)
  case atStart => exact ⟨0, Nat.zero_le _, rfl, HST⟩
  case round =>
    obtain ⟨i, hin, rfl, HB⟩ := hrel
    by_cases hlt : i < n
    · obtain ⟨a, hja⟩ : ∃ a, l[i]? = some a := ⟨l[i]'(by rw [← HNN.out]; exact hlt), by simp [← HNN.out, hlt]⟩
      obtain ⟨h0, h1, h2, h3⟩ := HAT.out i _ hja
      have HCC := HCUT i a hja
      have HNX := hid (HSN.out i (by omega) a hja)
      have e0 := (HB.out.1.cell (p := ⟨ga, i * 4, none⟩) hga).trans h0
      have e1 := (HB.out.1.cell (p := ⟨ga, i * 4 + 1, none⟩) hga).trans h1
      have e2' := (HB.out.1.cell (p := ⟨ga, i * 4 + 2, none⟩) hga).trans h2
      have e3 := (HB.out.1.cell (p := ⟨ga, i * 4 + 3, none⟩) hga).trans h3
      have hga3 : ga < wr.heap.size := Nat.lt_of_lt_of_le hga HB.out.1.size
      have hgg : w3.heap.size < wr.heap.size := HB.out.2.lt
      obtain ⟨t1, lo1, hi1, nl1⟩ := a
      simp only [] at e0 e1 e2' e3 HCC HNX
      obtain ⟨y, hy⟩ : ∃ y, y = cutT t1 lo1 := ⟨_, rfl⟩
      rw [← hy] at HCC HNX
      clear hy
      have hi2 : i < 2 := by omega
      have c0 := fun o => (HB.out.2.alloc o).at (k := i) (v := .int .u64 (sel l i i : Nat)) (by rcases (show i = 0 ∨ i = 1 by omega) with rfl | rfl <;> rfl)
      have f0 := fun o => (HB.out.2.alloc o).free i
      clear h0 h1 h2 h3 hja
      go_wp2_with (go_at_call 49; (with_reducible refine (HCC _).out.mono ?_); rintro e w5 ⟨rfl, rfl⟩)
      go_roundw
      case rel =>
        have hb1 := HB.out.1.setCell (p := ⟨w3.heap.size, i, none⟩) (Nat.le_refl _) (.int .u64 (y : Nat))
        have hc1 := HB.out.2.set (k := i) (.int .u64 (y : Nat))
        rw [HNX.out] at hc1
        exact ⟨i + 1, hlt, by go_num, hb1.alloc hb1.size _, hc1.alloc _⟩
      case measure => simp [intOf]; omega
    · obtain rfl : i = n := by omega
      have hc := HB.out.2
      rw [HSE.out 0, HSE.out 1] at hc
      have c0 := hc.at (k := 0) (v := .int .u64 (opn l 0 : Nat)) rfl
      have c1 := hc.at (k := 1) (v := .int .u64 (opn l 1 : Nat)) rfl
      have hgt4 : gt < wr.heap.size := Nat.lt_of_lt_of_le hgt3 HB.out.1.size
      have k4 : wr.cell? ⟨gt, 0, none⟩ = some (.int .i64 t) := (HB.out.1.cell (p := ⟨gt, 0, none⟩) hgt3).trans k3
      have HRSr := hid (HRS.out.call HB.out.1)
      have HBr := hid (HBW.out.trans (HB.out.1.mono HBW.out.size))
      have HRW := HRR wr (HGL.out.next HBr.out)
      clear hc HB HST HRS HBW k3
      go_upto_region 15 with (go_at_call 50; (with_reducible refine HRW.out.mono ?_); rintro e w5 ⟨rfl, hb5⟩; have HB5 := hid hb5; clear hb5)
      have k5 : w5.cell? ⟨gt, 0, none⟩ = some (.int .i64 t) := (HB5.out.cell (p := ⟨gt, 0, none⟩) hgt4).trans k4
      have hJ5 := HRSr.out.call HB5.out
      have hB5 := HBr.out.trans (HB5.out.mono HBr.out.size)
      clear HRSr HBr HB5 k4 c0 c1 HRW
      by_cases hez : e2 = 0
      · subst hez
        have dz : (((0 : Nat) : Int) != 0) = false := rfl
        go_upto_region 17 with fail
        have hS : Below w.heap.size w w5.drew ∧ w5.drew.cell? ⟨gt, 0, none⟩ = some (.int .i64 t) := ⟨hB5.drew, k5⟩
        have HJW : CA w.heap.size #[.int .i64 0, .int .u64 0, .int .u64 0, .bool false] 24 w5.drew := hJ5.drew
        clear k5 hJ5 hB5
        refine wp_region_held_drew (S := fun W => Below w.heap.size w W ∧ W.cell? ⟨gt, 0, none⟩ = some (.int .i64 t)) (by kernel_rfl) hS (fun _ => ?_)
        generalize w5.drew = W at *
        refine wpAnyH_take (oi := ⟨_, _, _, _, _, _⟩) (i := 0) (v := .slice (some ⟨gt, 0, none⟩) 1 ct) rfl (by kernel_rfl) (by kernel_rfl) (by kernel_rfl) (fun _ _ _ h => h) (Or.inl ⟨by rfl, ?_⟩) (by assumption) ?_
        · (intro W hSw; have x0 := hSw.2; go_simp; try (with_reducible rfl))
        try simp only [Act.put, List.setIfInBounds_toArray, List.set_cons_zero, List.set_cons_succ]
        refine wpAnyH_take (oi := ⟨_, _, _, _, _, _⟩) (i := 1) (v := .pointer (some ⟨gt, 0, none⟩)) rfl (by kernel_rfl) (by kernel_rfl) (by kernel_rfl) (fun _ _ _ h => h) (Or.inl ⟨by rfl, ?_⟩) (by assumption) ?_
        · (intro W hSw; have x0 := hSw.2; go_simp; try (with_reducible rfl))
        try simp only [Act.put, List.setIfInBounds_toArray, List.set_cons_zero, List.set_cons_succ]
        refine wpAnyH_take (oi := ⟨_, _, _, _, _, _⟩) (i := 2) (v := .int .i64 t) rfl (by kernel_rfl) (by kernel_rfl) (by kernel_rfl) (fun _ _ _ h => h) (Or.inl ⟨by rfl, ?_⟩) (by assumption) ?_
        · (intro W hSw; have x0 := hSw.2; go_simp; try (with_reducible rfl))
        try simp only [Act.put, List.setIfInBounds_toArray, List.set_cons_zero, List.set_cons_succ]
        refine wpAnyH_take (oi := ⟨_, _, _, _, _, _⟩) (i := 3) (v := .slice (some ⟨gt, 0, none⟩) 1 ct) rfl (by kernel_rfl) (by kernel_rfl) (by kernel_rfl) (fun _ _ _ h => h) (Or.inl ⟨by rfl, ?_⟩) (by assumption) ?_
        · (intro W hSw; have x0 := hSw.2; go_simp; try (with_reducible rfl))
        try simp only [Act.put, List.setIfInBounds_toArray, List.set_cons_zero, List.set_cons_succ]
        refine wpAnyH_take (oi := ⟨_, _, _, _, _, _⟩) (i := 4) (v := .pointer (some ⟨gt, 0, none⟩)) rfl (by kernel_rfl) (by kernel_rfl) (by kernel_rfl) (fun _ _ _ h => h) (Or.inl ⟨by rfl, ?_⟩) (by assumption) ?_
        · (intro W hSw; have x0 := hSw.2; go_simp; try (with_reducible rfl))
        try simp only [Act.put, List.setIfInBounds_toArray, List.set_cons_zero, List.set_cons_succ]
        refine wpAnyH_take (oi := ⟨_, _, _, _, _, _⟩) (i := 5) (v := .int .i64 t) rfl (by kernel_rfl) (by kernel_rfl) (by kernel_rfl) (fun _ _ _ h => h) (Or.inl ⟨by rfl, ?_⟩) (by assumption) ?_
        · (intro W hSw; have x0 := hSw.2; go_simp; try (with_reducible rfl))
        try simp only [Act.put, List.setIfInBounds_toArray, List.set_cons_zero, List.set_cons_succ]
        refine wpAnyH_take (oi := ⟨_, _, _, _, _, _⟩) (i := 6) (v := .int .u64 x) rfl (by kernel_rfl) (by kernel_rfl) (by kernel_rfl) (fun _ _ _ h => h) (Or.inl ⟨by rfl, ?_⟩) (by assumption) ?_
        · (intro W hSw; have x0 := hSw.2; go_simp; try (with_reducible rfl))
        try simp only [Act.put, List.setIfInBounds_toArray, List.set_cons_zero, List.set_cons_succ]
        refine wpAnyH_ready (rs := [7]) (by kernel_rfl) (by simp) ?_
        refine AllReadyH.cons (o := ⟨_, _, _, _, _, _⟩) rfl (fun K hK => ?_) ?_
        · go_simp
          go_at_call 49
          (with_reducible refine (HCX _).out.mono ?_)
          rintro e W1 ⟨rfl, rfl⟩
          refine hK.out _ _ hS (fun _ => ?_)
          clear hK K
          try simp only [Act.put, List.setIfInBounds_toArray, List.set_cons_zero, List.set_cons_succ]
          refine wpAnyH_take (oi := ⟨_, _, _, _, _, _⟩) (i := 8) (v := .agg #[.int .i64 t, .int .u64 (CT : Nat), .int .u64 0, .bool false]) rfl (by kernel_rfl) (by kernel_rfl) (by kernel_rfl) (fun _ _ _ h => h) (Or.inl ⟨by rfl, ?_⟩) (by assumption) ?_
          · (intro W hSw; have x0 := hSw.2; go_simp; try (with_reducible rfl))
          try simp only [Act.put, List.setIfInBounds_toArray, List.set_cons_zero, List.set_cons_succ]
          refine wpAnyH_ready (rs := [9]) (by kernel_rfl) (by simp) ?_
          refine AllReadyH.cons (o := ⟨_, _, _, _, _, _⟩) rfl (fun K hK => ?_) ?_
          · have r0 := HJW.at (k := 0) (v := .int .i64 0) rfl
            have r1 := HJW.at (k := 1) (v := .int .u64 0) rfl
            have r2 := HJW.at (k := 2) (v := .int .u64 0) rfl
            have r3 := HJW.at (k := 3) (v := .bool false) rfl
            have f0 := HJW.free 0
            have f1 := HJW.free 1
            have f2 := HJW.free 2
            have f3 := HJW.free 3
            go_simp
            clear r0 r1 r2 r3 f0 f1 f2 f3
            have hS2 : Below w.heap.size w ((((W.setCell ⟨w.heap.size, 0, none⟩ (.int .i64 t)).setCell ⟨w.heap.size, 1, none⟩ (.int .u64 (CT : Nat))).setCell ⟨w.heap.size, 2, none⟩ (.int .u64 0)).setCell ⟨w.heap.size, 3, none⟩ (.bool false)) ∧ ((((W.setCell ⟨w.heap.size, 0, none⟩ (.int .i64 t)).setCell ⟨w.heap.size, 1, none⟩ (.int .u64 (CT : Nat))).setCell ⟨w.heap.size, 2, none⟩ (.int .u64 0)).setCell ⟨w.heap.size, 3, none⟩ (.bool false)).cell? ⟨gt, 0, none⟩ = some (.int .i64 t) := And.intro ((((hS.1.setCell (p := ⟨w.heap.size, 0, none⟩) (Nat.le_refl _) (.int .i64 t)).setCell (p := ⟨w.heap.size, 1, none⟩) (Nat.le_refl _) (.int .u64 (CT : Nat))).setCell (p := ⟨w.heap.size, 2, none⟩) (Nat.le_refl _) (.int .u64 0)).setCell (p := ⟨w.heap.size, 3, none⟩) (Nat.le_refl _) (.bool false)) (by rw [cell_far hne, cell_far hne, cell_far hne, cell_far hne]; exact hS.2)
            have HJ2 := (((HJW.set (k := 0) (.int .i64 t)).set (k := 1) (.int .u64 (CT : Nat))).set (k := 2) (.int .u64 0)).set (k := 3) (.bool false)
            clear hS HJW
            have hS := hS2
            have HJW := HJ2
            clear hS2 HJ2
            generalize (((W.setCell ⟨w.heap.size, 0, none⟩ (.int .i64 t)).setCell ⟨w.heap.size, 1, none⟩ (.int .u64 (CT : Nat))).setCell ⟨w.heap.size, 2, none⟩ (.int .u64 0)).setCell ⟨w.heap.size, 3, none⟩ (.bool false) = W3 at *
            refine hK.out _ _ hS (fun _ => ?_)
            clear hK K
            try simp only [Act.put, List.setIfInBounds_toArray, List.set_cons_zero, List.set_cons_succ]
            refine wpAnyH_take (oi := ⟨_, _, _, _, _, _⟩) (i := 10) (v := .int .i64 0) rfl (by kernel_rfl) (by kernel_rfl) (by kernel_rfl) (fun _ _ _ h => h) (Or.inl ⟨by rfl, ?_⟩) (by assumption) ?_
            · (intro W hSw; have x0 := hSw.2; go_simp; try (with_reducible rfl))
            try simp only [Act.put, List.setIfInBounds_toArray, List.set_cons_zero, List.set_cons_succ]
            refine wpAnyH_done (by kernel_rfl) ?_ _
            have r0 := HJW.at (k := 0) (v := .int .i64 t) rfl
            have r1 := HJW.at (k := 1) (v := .int .u64 (CT : Nat)) rfl
            have r2 := HJW.at (k := 2) (v := .int .u64 0) rfl
            have r3 := HJW.at (k := 3) (v := .bool false) rfl
            go_wp2_with fail
            exact bodyPost_ret (v := .tuple #[.agg #[.int .i64 t, .int .u64 (CT : Nat), .int .u64 0, .bool false], .int .i64 0]) (by simp [results, Tryz.results26, go_sem, r0, r1, r2, r3]) rfl ⟨by rw [HD0.out]; rfl, hS.1⟩
          exact AllReadyH.nil
        exact AllReadyH.nil
      · have dz : ((e2 : Int) != 0) = true := by simp; omega
        have r0 := hJ5.at (k := 0) (v := .int .i64 0) rfl
        have r1 := hJ5.at (k := 1) (v := .int .u64 0) rfl
        have r2 := hJ5.at (k := 2) (v := .int .u64 0) rfl
        have r3 := hJ5.at (k := 3) (v := .bool false) rfl
        have f0 := hJ5.free 0
        have f1 := hJ5.free 1
        have f2 := hJ5.free 2
        have f3 := hJ5.free 3
        clear k5
        go_wp2_with fail
        have hJ6 := (((hJ5.set (k := 0) (.int .i64 0)).set (k := 1) (.int .u64 0)).set (k := 2) (.int .u64 0)).set (k := 3) (.bool false)
        have hB6 := (((hB5.setCell (p := ⟨w.heap.size, 0, none⟩) (Nat.le_refl _) (.int .i64 0)).setCell (p := ⟨w.heap.size, 1, none⟩) (Nat.le_refl _) (.int .u64 0)).setCell (p := ⟨w.heap.size, 2, none⟩) (Nat.le_refl _) (.int .u64 0)).setCell (p := ⟨w.heap.size, 3, none⟩) (Nat.le_refl _) (.bool false)
        exact bodyPost_ret (v := .tuple #[.agg #[.int .i64 0, .int .u64 0, .int .u64 0, .bool false], .int .i64 e2]) (by simp [results, Tryz.results26, go_sem, r0, r1, r2, r3]) rfl ⟨by rw [HDE.out hez]; rfl, hB6⟩
end Go.Proofs.YtlhakbkdlgejpaaGreatDoor.Sc
namespace Go.Proofs.YtlhakbkdlgejpaaGreatDoor.Sc
open Go.RowKit

theorem one_says (b : Bool) (w : World) : Calls Tryz.prog 142 #[.bool b] w fun e w' => e = .returned (.int .u64 ((if b then 1 else 0 : Nat) : Int)) ∧ Below w.heap.size w w' := by
  cases b
  all_goals (go_enter Tryz.func142, Tryz.ntmps142; go_wp2; go_ret; exact ⟨rfl, Below.refl _ _⟩)
def bitsT (t : Int) : Nat := if t = 127 ∨ t = 125 then 32 else 64
theorem Bits_says (t : Int) (w : World) : Calls Tryz.prog 92 #[.int .i64 t] w fun e w' => e = .returned (.int .i64 (bitsT t : Nat)) ∧ w = w' := by
  by_cases h1 : t = 127
  · have hb : bitsT t = 32 := by unfold bitsT; rw [if_pos (.inl h1)]
    rw [hb]
    have d1 : (t == 127) = true := by simpa using h1
    clear h1 hb
    go_enter Tryz.func92, Tryz.ntmps92
    go_wp2
    go_ret
    exact ⟨rfl, rfl⟩
  · have d1 : (t == 127) = false := by simpa using h1
    by_cases h2 : t = 125
    · have hb : bitsT t = 32 := by unfold bitsT; rw [if_pos (.inr h2)]
      rw [hb]
      have d2 : (t == 125) = true := by simpa using h2
      clear h1 h2 hb
      go_enter Tryz.func92, Tryz.ntmps92
      go_wp2
      go_ret
      exact ⟨rfl, rfl⟩
    · have hb : bitsT t = 64 := by unfold bitsT; rw [if_neg (by omega)]
      rw [hb]
      have d2 : (t == 125) = false := by simpa using h2
      clear h1 h2 hb
      go_enter Tryz.func92, Tryz.ntmps92
      go_wp2
      go_ret
      exact ⟨rfl, rfl⟩

set_option maxHeartbeats 2000000 in
theorem Clean_says (t : Int) (ht : t ≠ 123) (lo : Nat) (hi : Nat) (nl : Bool) (w : World) : Calls Tryz.prog 90 #[.agg #[.int .i64 t, .int .u64 lo, .int .u64 hi, .bool nl]] w fun e w' => e = .returned (vv t (cutT t lo) 0 false) ∧ Below w.heap.size w w' := by
  have HC : ∀ W : World, Hid (Calls Tryz.prog 81 #[.int .i64 32, .int .u64 lo] W fun e w' => e = .returned (.int .u64 ((lo % 2 ^ 32 : Nat) : Int)) ∧ W = w') := fun W => Cut_small 32 (by decide) lo W
  have hBF : ∀ a b, Below w.heap.size w ((w.alloc a).alloc b) := fun a b => ((Below.refl _ w).alloc (Nat.le_refl _) a).alloc (by rw [size_al]; omega) b
  have HBF := hid hBF
  have d3 : (t == 123) = false := by simpa using ht
  unfold vv
  clear hBF
  by_cases h1 : t = 127 ∨ t = 125
  · have hc : cutT t lo = lo % 2 ^ 32 := by unfold cutT; rw [if_pos h1]
    obtain ⟨m, hm⟩ : ∃ m, m = lo % 2 ^ 32 := ⟨_, rfl⟩
    rw [← hm] at HC
    rw [hc, ← hm]
    have hd : ∃ b1 b2, (t == 127) = b1 ∧ (t == 125) = b2 ∧ (b1 = true ∨ b1 = false ∧ b2 = true) := by
      rcases h1 with h | h
      · exact ⟨true, false, by simpa using h, by simp; omega, .inl rfl⟩
      · exact ⟨false, true, by simp; omega, by simpa using h, .inr ⟨rfl, rfl⟩⟩
    obtain ⟨b1, b2, d1, d2, hb⟩ := hd
    clear h1 hc hm ht
    rcases hb with rfl | ⟨rfl, rfl⟩
    all_goals
      go_enter Tryz.func90, Tryz.ntmps90
      go_wp2
      go_region_with (go_at_call 81; (with_reducible refine (HC _).out.mono ?_); rintro e w3 ⟨rfl, rfl⟩)
    all_goals
      go_wp2
      exact bodyPost_ret (v := .agg #[.int .i64 t, .int .u64 (m : Nat), .int .u64 0, .bool false]) (by simp [results, Tryz.results90, go_sem]) rfl ⟨rfl, by first | exact HBF.out _ _ | exact (HBF.out _ _).drew⟩
  · have hc : cutT t lo = lo := by unfold cutT; rw [if_neg h1]
    rw [hc]
    have d1 : (t == 127) = false := by simp; omega
    have d2 : (t == 125) = false := by simp; omega
    clear h1 hc ht HC
    go_enter Tryz.func90, Tryz.ntmps90
    go_wp2
    exact bodyPost_ret (v := .agg #[.int .i64 t, .int .u64 (lo : Nat), .int .u64 0, .bool false]) (by simp [results, Tryz.results90, go_sem]) rfl ⟨rfl, HBF.out _ _⟩

set_option maxHeartbeats 2000000 in
set_option maxRecDepth 100000 in
theorem RNum_says (op : Int) (hN : (69 ≤ op ∧ op ≤ 196) ∨ (64512 ≤ op ∧ op ≤ 64519)) (ro : Int) (nm : List UInt8) (im : Int) (tk lv : List UInt8) (fx : Bool) (hr : ofL op = (ro, nm, im, tk, lv, fx)) (hro : 0 ≤ ro) (w : World) : Calls Tryz.prog 89 #[.int .i64 op] w fun e w' => e = .returned (.bool true) ∧ Below w.heap.size w w' := by
  have HO := fun W => hid (Of_says op W)
  rw [hr] at HO
  unfold rwV at HO
  have d0 : decide (ro < 0) = false := by simp; omega
  have d1 : decide (69 ≤ op) = true := by simp; omega
  generalize str nm = s1 at *
  generalize str tk = s2 at *
  generalize str lv = s3 at *
  clear hr hro
  rcases hN with h | h
  · have d2 : decide (op ≤ 196) = true := by simp; omega
    clear h
    go_enter Tryz.func89, Tryz.ntmps89
    go_wp2_with (go_at_call 23; refine (HO _).out.mono ?_; rintro e w1 ⟨rfl, hb1⟩; have HB := hid (hb1.alloc hb1.size (.cells #[.int .i64 ro, .string s1, .int .i64 im, .string s2, .string s3, .bool fx] 36)); clear hb1)
    go_ret
    exact ⟨rfl, HB.out⟩
  · have d2 : decide (op ≤ 196) = false := by simp; omega
    have d3 : decide (64512 ≤ op) = true := by simp; omega
    have d4 : decide (op ≤ 64519) = true := by simp; omega
    clear h
    go_enter Tryz.func89, Tryz.ntmps89
    go_wp2_with (go_at_call 23; refine (HO _).out.mono ?_; rintro e w1 ⟨rfl, hb1⟩; have HB := hid (hb1.alloc hb1.size (.cells #[.int .i64 ro, .string s1, .int .i64 im, .string s2, .string s3, .bool fx] 36)); clear hb1)
    go_ret
    exact ⟨rfl, HB.out⟩

end Go.Proofs.YtlhakbkdlgejpaaGreatDoor.Sc
