/-
  LCDo: merged, what the law does not reach left out (each text says what it holds where it lies in wip). No condition.
-/
import Derived.Test.YtlhakbkdlgejpaaGreatDoorH14
import Derived.Test.YtlhakbkdlgejpaaGreatDoorH18
import Derived.Test.YtlhakbkdlgejpaaGreatDoorH19
set_option linter.unusedSimpArgs false
set_option linter.unusedVariables false
set_option maxRecDepth 100000
namespace Go.Proofs.YtlhakbkdlgejpaaGreatDoor
open Go.RowKit
set_option maxHeartbeats 4000000 in
set_option maxRecDepth 100000 in
theorem RDo_vec1 (op : Int) (h64 : 64768 ≤ op) (ro : Int) (nm : List UInt8) (tk lv : List UInt8) (fx : Bool) (hr : ofL op = (ro, nm, 25, tk, lv, fx)) (hro : 0 ≤ ro) (htk : tk.length ≤ 100) (hlv : lv.length ≤ 100) (hlv2 : tyL lv = [123])
    (l : List Av) (hT : tyL tk = l.map (·.1)) (hl1 : 1 ≤ l.length) (hl : l.length ≤ 10) (va : Value) (w : World) (ha : AR w va l) (gi ci : Nat) (hgi : gi < w.heap.size) (P : Nat → Nat) (hP : ∀ j, j < 1 → w.cell? ⟨gi, j, none⟩ = some (.int .i64 (P j : Nat)) ∧ (P j : Int) < refLanes (ofL op)) (lo hi : Nat)
    (HD : ∀ W, Below w.heap.size w W → Calls Tryz.prog 80 #[rwV (ro, nm, 25, tk, lv, fx), .slice (some ⟨gi, 0, none⟩) 1 ci, va] W fun e w' => e = .returned (vv 123 lo hi false) ∧ Below W.heap.size W w') :
    Calls Tryz.prog 38 #[.int .i64 op, .slice (some ⟨gi, 0, none⟩) 1 ci, va] w fun e w' => e = .returned (.tuple #[vv 123 lo hi false, .int .i64 0]) ∧ Below w.heap.size w w' := by
  have HLN := fun W => hid (RLanes_says op W)
  generalize refLanes (ofL op) = ll at *
  have HPP := hid hP
  clear hP
  have HO := fun W => hid (Of_says op W)
  rw [hr] at HO
  have HT1 := fun W => hid (reftypes_says tk htk W)
  have HT2 := fun W => hid (reftypes_says lv hlv W)
  rw [hlv2] at HT2
  have HDD := fun W h => hid (HD W h)
  have HT := hid hT
  have hlen : (tyL tk).length = l.length := by rw [hT, List.length_map]
  obtain ⟨ga, ca, rfl, hga, hca, hata⟩ := ha
  have HA := hid hata
  obtain ⟨n, hn⟩ : ∃ n, n = l.length := ⟨_, rfl⟩
  rw [← hn] at hca hl1 hl hlen ⊢
  rw [← hn] at HDD
  have HN := hid hn
  have hop : ¬ (op < 64768) := by omega
  have hro2 : ¬ (ro < 0) := by omega
  unfold vv at HDD ⊢
  unfold rwV at HO HDD
  generalize tyL tk = ta at *
  clear hr hlv2 HD hT hata hn h64 hro
  go_enter Tryz.func38, Tryz.ntmps38
  go_upto_region 9 with (first
    | (go_at_call 23; refine (HO _).out.mono ?_; rintro e w1 ⟨rfl, hb1⟩; have HX1 := hid (below_new hb1); clear hb1)
    | (go_at_call 25; (with_reducible refine (HT1 _).out.mono ?_); rintro e w2 ⟨v2, rfl, ho2, hb2⟩; have HO2 := hid ho2; have HX2 := hid (below_new hb2); have m0 := HX2.out.1.at (k := 0) (v := .int .i64 ro) rfl; have m1 := HX2.out.1.at (k := 1) (v := .string (str nm)) rfl; have m2 := HX2.out.1.at (k := 2) (v := .int .i64 25) rfl; have m3 := HX2.out.1.at (k := 3) (v := .string (str tk)) rfl; have m4 := HX2.out.1.at (k := 4) (v := .string (str lv)) rfl; have m5 := HX2.out.1.at (k := 5) (v := .bool fx) rfl; clear hb2 ho2)
    | (go_at_call 25; (with_reducible refine (HT2 _).out.mono ?_); rintro e w3 ⟨v3, rfl, ho3, hb3⟩; have HO3 := hid ho3; have HO2' := hid (own_below HO2.out hb3 (Nat.le_refl _)); have HX3 := hid (And.intro (HX2.out.1.call hb3) (HX2.out.2.trans (hb3.mono HX2.out.2.size))); clear m0 m1 m2 m3 m4 m5; have p0 := HX3.out.1.at (k := 0) (v := .int .i64 ro) rfl; have p1 := HX3.out.1.at (k := 1) (v := .string (str nm)) rfl; have p2 := HX3.out.1.at (k := 2) (v := .int .i64 25) rfl; have p3 := HX3.out.1.at (k := 3) (v := .string (str tk)) rfl; have p4 := HX3.out.1.at (k := 4) (v := .string (str lv)) rfl; have p5 := HX3.out.1.at (k := 5) (v := .bool fx) rfl; clear hb3 ho3))
  obtain ⟨g2, c2, rfl⟩ := owned_at HO2'.out (by omega)
  obtain ⟨g3, c3, rfl⟩ : ∃ g cap, v3 = .slice (some ⟨g, 0, none⟩) 1 cap := owned_at HO3.out (Nat.le_refl _)
  have k3 : w3.cell? ⟨g3, 0, none⟩ = some (.int .i64 123) := HO3.out.cellAt 0 (by decide)
  have hg3 : g3 < w3.heap.size := (HO3.out.lt g3 rfl).2
  have hg2 : g2 < w3.heap.size := (HO2'.out.lt g2 rfl).2
  have HTC : Hid (∀ j a, l[j]? = some a → w3.cell? ⟨g2, j, none⟩ = some (.int .i64 a.1)) := fun j a hj => by
    have hjl : j < l.length := (List.getElem?_eq_some_iff.1 hj).1
    rw [HO2'.out.cellAt j (by rw [hlen, HN.out]; omega), HT.out]
    simp [ic, hj]
  have hB3 : Below w.heap.size w w3 := HX1.out.2.trans (HX3.out.2.mono HX1.out.2.size)
  have hR3 : CA w.heap.size #[.int .i64 0, .int .u64 0, .int .u64 0, .bool false] 24 w3 := HX1.out.1.call HX3.out.2
  have HXR := hid HX3.out.1
  have HB3 := hid hB3
  have HR3 := hid hR3
  have hwg : w.heap.size < w1.heap.size := HX1.out.1.lt
  generalize w1.heap.size = g8 at *
  rw [hlen]
  have hz : ((0 : Nat) : Int) = 0 := rfl
  clear HX1 HX2 HX3 HO2 HO2' HO3 HT hlen hB3 hR3
  go_wp2
  have hgi3 : gi < w3.heap.size := Nat.lt_of_lt_of_le hgi HB3.out.size
  have HPW := hid (show ∀ j, j < 1 → w3.cell? ⟨gi, j, none⟩ = some (.int .i64 (P j : Nat)) ∧ (P j : Int) < ll from fun j hj => ⟨(HB3.out.cell (p := ⟨gi, j, none⟩) hgi).trans (HPP.out j hj).1, (HPP.out j hj).2⟩)
  clear HPP
  go_loopw [12] (fun vi wr => ∃ j : Nat, j ≤ 1 ∧ vi = .int .i64 j ∧ Hid (Below w3.heap.size w3 wr)) (fun vi _ => 1 - (intOf vi).toNat)
  case atStart => exact ⟨0, Nat.zero_le _, rfl, Below.refl _ _⟩
  case round =>
    obtain ⟨j, hj, rfl, HBJ⟩ := hrel
    by_cases hjn : j < 1
    · have kj := (HPW.out j hjn).1
      have hxl0 := (HPW.out j hjn).2
      clear HPW HTC HXR HR3 k3 HDD HN HA
      generalize P j = x at *
      have hxl := hid (show ¬ (ll ≤ (x : Int)) by omega)
      have hxl2 := hid (show decide ((x : Int) ≥ ll) = false from decide_eq_false (by omega))
      have hxl3 := hid (show decide (ll ≤ (x : Int)) = false from decide_eq_false (by omega))
      go_upto_region 14 with fail
      have hS : Below w3.heap.size w3 wr.drew := HBJ.out.drew
      clear HBJ
      refine wp_region_held_drew (S := fun W => Below w3.heap.size w3 W) (by kernel_rfl) hS (fun _ => ?_)
      generalize wr.drew = W at *
      refine wpAnyH_take (oi := ⟨_, _, _, _, _, _⟩) (i := 0) (v := .slice (some ⟨gi, 0, none⟩) 1 ci) rfl (by kernel_rfl) (by kernel_rfl) (by kernel_rfl) (fun _ _ _ h => h) (Or.inl ⟨by rfl, ?_⟩) (by assumption) ?_
      · (intro W hSw; have y1 := (hSw.cell (p := ⟨gi, j, none⟩) hgi3).trans kj; have y2 := hxl.out; have y3 := hxl2.out; have y4 := hxl3.out; go_simp; try (with_reducible rfl))
      try simp only [Act.put, List.setIfInBounds_toArray, List.set_cons_zero, List.set_cons_succ]
      refine wpAnyH_take (oi := ⟨_, _, _, _, _, _⟩) (i := 1) (v := .int .i64 j) rfl (by kernel_rfl) (by kernel_rfl) (by kernel_rfl) (fun _ _ _ h => h) (Or.inl ⟨by rfl, ?_⟩) (by assumption) ?_
      · (intro W hSw; have y1 := (hSw.cell (p := ⟨gi, j, none⟩) hgi3).trans kj; have y2 := hxl.out; have y3 := hxl2.out; have y4 := hxl3.out; go_simp; try (with_reducible rfl))
      try simp only [Act.put, List.setIfInBounds_toArray, List.set_cons_zero, List.set_cons_succ]
      refine wpAnyH_take (oi := ⟨_, _, _, _, _, _⟩) (i := 2) (v := .pointer (some ⟨gi, j, none⟩)) rfl (by kernel_rfl) (by kernel_rfl) (by kernel_rfl) (fun _ _ _ h => h) (Or.inl ⟨by rfl, ?_⟩) (by assumption) ?_
      · (intro W hSw; have y1 := (hSw.cell (p := ⟨gi, j, none⟩) hgi3).trans kj; have y2 := hxl.out; have y3 := hxl2.out; have y4 := hxl3.out; go_simp; try (with_reducible rfl))
      try simp only [Act.put, List.setIfInBounds_toArray, List.set_cons_zero, List.set_cons_succ]
      refine wpAnyH_take (oi := ⟨_, _, _, _, _, _⟩) (i := 3) (v := .int .i64 (x : Nat)) rfl (by kernel_rfl) (by kernel_rfl) (by kernel_rfl) (fun _ _ _ h => h) (Or.inl ⟨by rfl, ?_⟩) (by assumption) ?_
      · (intro W hSw; have y1 := (hSw.cell (p := ⟨gi, j, none⟩) hgi3).trans kj; have y2 := hxl.out; have y3 := hxl2.out; have y4 := hxl3.out; go_simp; try (with_reducible rfl))
      try simp only [Act.put, List.setIfInBounds_toArray, List.set_cons_zero, List.set_cons_succ]
      refine wpAnyH_take (oi := ⟨_, _, _, _, _, _⟩) (i := 4) (v := .bool false) rfl (by kernel_rfl) (by kernel_rfl) (by kernel_rfl) (fun _ _ _ h => h) (Or.inl ⟨by rfl, ?_⟩) (by assumption) ?_
      · (intro W hSw; have y1 := (hSw.cell (p := ⟨gi, j, none⟩) hgi3).trans kj; have y2 := hxl.out; have y3 := hxl2.out; have y4 := hxl3.out; go_simp; try (with_reducible rfl))
      try simp only [Act.put, List.setIfInBounds_toArray, List.set_cons_zero, List.set_cons_succ]
      refine wpAnyH_take (oi := ⟨_, _, _, _, _, _⟩) (i := 5) (v := .bool false) rfl (by kernel_rfl) (by kernel_rfl) (by kernel_rfl) (fun _ _ _ h => h) (Or.inl ⟨by rfl, ?_⟩) (by assumption) ?_
      · (intro W hSw; have y1 := (hSw.cell (p := ⟨gi, j, none⟩) hgi3).trans kj; have y2 := hxl.out; have y3 := hxl2.out; have y4 := hxl3.out; go_simp; try (with_reducible rfl))
      try simp only [Act.put, List.setIfInBounds_toArray, List.set_cons_zero, List.set_cons_succ]
      refine wpAnyH_take (oi := ⟨_, _, _, _, _, _⟩) (i := 6) (v := .slice (some ⟨gi, 0, none⟩) 1 ci) rfl (by kernel_rfl) (by kernel_rfl) (by kernel_rfl) (fun _ _ _ h => h) (Or.inl ⟨by rfl, ?_⟩) (by assumption) ?_
      · (intro W hSw; have y1 := (hSw.cell (p := ⟨gi, j, none⟩) hgi3).trans kj; have y2 := hxl.out; have y3 := hxl2.out; have y4 := hxl3.out; go_simp; try (with_reducible rfl))
      try simp only [Act.put, List.setIfInBounds_toArray, List.set_cons_zero, List.set_cons_succ]
      refine wpAnyH_take (oi := ⟨_, _, _, _, _, _⟩) (i := 7) (v := .int .i64 j) rfl (by kernel_rfl) (by kernel_rfl) (by kernel_rfl) (fun _ _ _ h => h) (Or.inl ⟨by rfl, ?_⟩) (by assumption) ?_
      · (intro W hSw; have y1 := (hSw.cell (p := ⟨gi, j, none⟩) hgi3).trans kj; have y2 := hxl.out; have y3 := hxl2.out; have y4 := hxl3.out; go_simp; try (with_reducible rfl))
      try simp only [Act.put, List.setIfInBounds_toArray, List.set_cons_zero, List.set_cons_succ]
      refine wpAnyH_take (oi := ⟨_, _, _, _, _, _⟩) (i := 8) (v := .pointer (some ⟨gi, j, none⟩)) rfl (by kernel_rfl) (by kernel_rfl) (by kernel_rfl) (fun _ _ _ h => h) (Or.inl ⟨by rfl, ?_⟩) (by assumption) ?_
      · (intro W hSw; have y1 := (hSw.cell (p := ⟨gi, j, none⟩) hgi3).trans kj; have y2 := hxl.out; have y3 := hxl2.out; have y4 := hxl3.out; go_simp; try (with_reducible rfl))
      try simp only [Act.put, List.setIfInBounds_toArray, List.set_cons_zero, List.set_cons_succ]
      refine wpAnyH_take (oi := ⟨_, _, _, _, _, _⟩) (i := 9) (v := .int .i64 (x : Nat)) rfl (by kernel_rfl) (by kernel_rfl) (by kernel_rfl) (fun _ _ _ h => h) (Or.inl ⟨by rfl, ?_⟩) (by assumption) ?_
      · (intro W hSw; have y1 := (hSw.cell (p := ⟨gi, j, none⟩) hgi3).trans kj; have y2 := hxl.out; have y3 := hxl2.out; have y4 := hxl3.out; go_simp; try (with_reducible rfl))
      try simp only [Act.put, List.setIfInBounds_toArray, List.set_cons_zero, List.set_cons_succ]
      refine wpAnyH_take (oi := ⟨_, _, _, _, _, _⟩) (i := 10) (v := .int .i64 op) rfl (by kernel_rfl) (by kernel_rfl) (by kernel_rfl) (fun _ _ _ h => h) (Or.inl ⟨by rfl, ?_⟩) (by assumption) ?_
      · (intro W hSw; have y1 := (hSw.cell (p := ⟨gi, j, none⟩) hgi3).trans kj; have y2 := hxl.out; have y3 := hxl2.out; have y4 := hxl3.out; go_simp; try (with_reducible rfl))
      try simp only [Act.put, List.setIfInBounds_toArray, List.set_cons_zero, List.set_cons_succ]
      refine wpAnyH_ready (rs := [11]) (by kernel_rfl) (by simp) ?_
      refine AllReadyH.cons (o := ⟨_, _, _, _, _, _⟩) rfl (fun K hK => ?_) ?_
      · go_simp
        go_at_call 37
        (with_reducible refine (HLN _).out.mono ?_)
        rintro e WL1 ⟨rfl, hbl⟩
        replace hS := hS.trans (hbl.mono hS.size)
        clear hbl
        refine hK.out _ _ hS (fun _ => ?_)
        clear hK K
        try simp only [Act.put, List.setIfInBounds_toArray, List.set_cons_zero, List.set_cons_succ]
        refine wpAnyH_take (oi := ⟨_, _, _, _, _, _⟩) (i := 12) (v := .bool false) rfl (by kernel_rfl) (by kernel_rfl) (by kernel_rfl) (fun _ _ _ h => h) (Or.inl ⟨by rfl, ?_⟩) (by assumption) ?_
        · (intro W hSw; have y1 := (hSw.cell (p := ⟨gi, j, none⟩) hgi3).trans kj; have y2 := hxl.out; have y3 := hxl2.out; have y4 := hxl3.out; go_simp; try (with_reducible rfl))
        try simp only [Act.put, List.setIfInBounds_toArray, List.set_cons_zero, List.set_cons_succ]
        refine wpAnyH_take (oi := ⟨_, _, _, _, _, _⟩) (i := 13) (v := .bool false) rfl (by kernel_rfl) (by kernel_rfl) (by kernel_rfl) (fun _ _ _ h => h) (Or.inl ⟨by rfl, ?_⟩) (by assumption) ?_
        · (intro W hSw; have y1 := (hSw.cell (p := ⟨gi, j, none⟩) hgi3).trans kj; have y2 := hxl.out; have y3 := hxl2.out; have y4 := hxl3.out; go_simp; try (with_reducible rfl))
        try simp only [Act.put, List.setIfInBounds_toArray, List.set_cons_zero, List.set_cons_succ]
        refine wpAnyH_done (by kernel_rfl) ?_ _
        have HB9 := hid hS
        clear hS
        go_wp2_with fail
        go_roundw
        case rel => exact ⟨j + 1, by omega, by first | rfl | go_num, HB9⟩
        case measure => (simp [intOf] <;> omega)
      exact AllReadyH.nil
    obtain rfl : j = 1 := by omega
    have hTC : ∀ j a, l[j]? = some a → wr.cell? ⟨g2, j, none⟩ = some (.int .i64 a.1) := fun j a h => (HBJ.out.cell (p := ⟨g2, j, none⟩) hg2).trans (HTC.out j a h)
    have hXR := hid (HXR.out.call HBJ.out)
    have hR3 := hid (HR3.out.call HBJ.out)
    have hB3 := hid (HB3.out.trans (HBJ.out.mono HB3.out.size))
    have hk3 := (HBJ.out.cell (p := ⟨g3, 0, none⟩) hg3).trans k3
    have hg3' : g3 < wr.heap.size := Nat.lt_of_lt_of_le hg3 HBJ.out.size
    have hg2' : g2 < wr.heap.size := Nat.lt_of_lt_of_le hg2 HBJ.out.size
    have HTC2 := hid hTC
    clear HTC HXR HR3 HB3 k3 hg3 hg2 hTC HBJ HPW hgi3
    have HTC := HTC2
    have HXR := hXR
    have HR3 := hR3
    have HB3 := hB3
    have k3 := hk3
    have hg3 := hg3'
    have hg2 := hg2'
    clear HTC2 hXR hR3 hB3 hk3 hg3' hg2'
    go_wp2
    go_loopw [13] (fun vi ws => ∃ i : Nat, i ≤ n ∧ vi = .int .i64 i ∧ Hid (Below wr.heap.size wr ws)) (fun vi _ => n - (intOf vi).toNat)
    case atStart => exact ⟨0, Nat.zero_le _, rfl, Below.refl _ _⟩
    case round =>
      obtain ⟨i, hin, rfl, HB⟩ := hrel
      by_cases hlt : i < n
      · obtain ⟨a, hja⟩ : ∃ a, l[i]? = some a := ⟨l[i]'(by rw [← HN.out]; exact hlt), by simp [← HN.out, hlt]⟩
        obtain ⟨h0, _, _, _⟩ := HA.out i a hja
        have ht0 := HTC.out i a hja
        have e0 := (HB.out.cell (p := ⟨ga, i * 4, none⟩) (Nat.lt_of_lt_of_le hga HB3.out.size)).trans ((HB3.out.cell (p := ⟨ga, i * 4, none⟩) hga).trans h0)
        have e1 := (HB.out.cell (p := ⟨g2, i, none⟩) hg2).trans ht0
        generalize a.1 = t at *
        have ett : (t != t) = false := by simp
        clear h0 ht0 hja
        go_wp2
        go_region
        go_wp2
        go_roundw
        case rel => exact ⟨i + 1, by omega, by go_num, HB.out.drew⟩
        case measure => simp [intOf]; omega
      · obtain rfl : i = n := by omega
        have hXs := HXR.out.call HB.out
        have hRs := HR3.out.call HB.out
        have hBs := HB3.out.trans (HB.out.mono HB3.out.size)
        have HDW := HDD wr hBs
        have s0 := hXs.at (k := 0) (v := .int .i64 ro) rfl
        have s1 := hXs.at (k := 1) (v := .string (str nm)) rfl
        have s2 := hXs.at (k := 2) (v := .int .i64 25) rfl
        have s3 := hXs.at (k := 3) (v := .string (str tk)) rfl
        have s4 := hXs.at (k := 4) (v := .string (str lv)) rfl
        have s5 := hXs.at (k := 5) (v := .bool fx) rfl
        have k3' := (HB.out.cell (p := ⟨g3, 0, none⟩) hg3).trans k3
        have HRs := hid hRs
        have HBs := hid hBs
        have hg3s : g3 < wr.heap.size := Nat.lt_of_lt_of_le hg3 HB.out.size
        clear hXs hRs hBs
        go_wp2_with (go_at_call 80; refine HDW.out.mono ?_; rintro e w9 ⟨rfl, hb9⟩; have HR9 := hid (HRs.out.call hb9); have HB9 := hid (HBs.out.trans (hb9.mono HBs.out.size)); have k9 : ∀ o, (w9.alloc o).cell? ⟨g3, 0, none⟩ = some (.int .i64 123) := fun o => by { rw [((Below.refl _ w9).alloc (Nat.le_refl _) o).cell (p := ⟨g3, 0, none⟩) (Nat.lt_of_lt_of_le hg3s hb9.size), hb9.cell (p := ⟨g3, 0, none⟩) hg3s]; exact k3' }; have r0 := fun o => (HR9.out.alloc o).at (k := 0) (v := .int .i64 0) rfl; have r1 := fun o => (HR9.out.alloc o).at (k := 1) (v := .int .u64 0) rfl; have r2 := fun o => (HR9.out.alloc o).at (k := 2) (v := .int .u64 0) rfl; have r3 := fun o => (HR9.out.alloc o).at (k := 3) (v := .bool false) rfl; have f0 := fun o => (HR9.out.alloc o).free 0; have f1 := fun o => (HR9.out.alloc o).free 1; have f2 := fun o => (HR9.out.alloc o).free 2; have f3 := fun o => (HR9.out.alloc o).free 3; clear hb9)
        have hBF : Below w.heap.size w _ := ((((HB9.out.alloc HB9.out.size (.cells #[.int .i64 123, .int .u64 (lo : Nat), .int .u64 (hi : Nat), .bool false] 24)).setCell (p := ⟨w.heap.size, 0, none⟩) (Nat.le_refl _) (.int .i64 123)).setCell (p := ⟨w.heap.size, 1, none⟩) (Nat.le_refl _) (.int .u64 (lo : Nat))).setCell (p := ⟨w.heap.size, 2, none⟩) (Nat.le_refl _) (.int .u64 (hi : Nat))).setCell (p := ⟨w.heap.size, 3, none⟩) (Nat.le_refl _) (.bool false)
        refine bodyPost_ret (v := .tuple #[.agg #[.int .i64 123, .int .u64 (lo : Nat), .int .u64 (hi : Nat), .bool false], .int .i64 0]) ?_ rfl ⟨rfl, hBF⟩
        simp [results, Tryz.results38, go_sem, r0, r1, r2, r3]
set_option maxHeartbeats 4000000 in
set_option maxRecDepth 100000 in
theorem RDo_vec16 (op : Int) (h64 : 64768 ≤ op) (ro : Int) (nm : List UInt8) (tk lv : List UInt8) (fx : Bool) (hr : ofL op = (ro, nm, 24, tk, lv, fx)) (hro : 0 ≤ ro) (htk : tk.length ≤ 100) (hlv : lv.length ≤ 100) (hlv2 : tyL lv = [123])
    (l : List Av) (hT : tyL tk = l.map (·.1)) (hl1 : 1 ≤ l.length) (hl : l.length ≤ 10) (va : Value) (w : World) (ha : AR w va l) (gi ci : Nat) (hgi : gi < w.heap.size) (P : Nat → Nat) (hP : ∀ j, j < 16 → w.cell? ⟨gi, j, none⟩ = some (.int .i64 (P j : Nat)) ∧ (P j : Int) < refLanes (ofL op)) (lo hi : Nat)
    (HD : ∀ W, Below w.heap.size w W → Calls Tryz.prog 80 #[rwV (ro, nm, 24, tk, lv, fx), .slice (some ⟨gi, 0, none⟩) 16 ci, va] W fun e w' => e = .returned (vv 123 lo hi false) ∧ Below W.heap.size W w') :
    Calls Tryz.prog 38 #[.int .i64 op, .slice (some ⟨gi, 0, none⟩) 16 ci, va] w fun e w' => e = .returned (.tuple #[vv 123 lo hi false, .int .i64 0]) ∧ Below w.heap.size w w' := by
  have HLN := fun W => hid (RLanes_says op W)
  generalize refLanes (ofL op) = ll at *
  have HPP := hid hP
  clear hP
  have HO := fun W => hid (Of_says op W)
  rw [hr] at HO
  have HT1 := fun W => hid (reftypes_says tk htk W)
  have HT2 := fun W => hid (reftypes_says lv hlv W)
  rw [hlv2] at HT2
  have HDD := fun W h => hid (HD W h)
  have HT := hid hT
  have hlen : (tyL tk).length = l.length := by rw [hT, List.length_map]
  obtain ⟨ga, ca, rfl, hga, hca, hata⟩ := ha
  have HA := hid hata
  obtain ⟨n, hn⟩ : ∃ n, n = l.length := ⟨_, rfl⟩
  rw [← hn] at hca hl1 hl hlen ⊢
  rw [← hn] at HDD
  have HN := hid hn
  have hop : ¬ (op < 64768) := by omega
  have hro2 : ¬ (ro < 0) := by omega
  unfold vv at HDD ⊢
  unfold rwV at HO HDD
  generalize tyL tk = ta at *
  clear hr hlv2 HD hT hata hn h64 hro
  go_enter Tryz.func38, Tryz.ntmps38
  go_upto_region 9 with (first
    | (go_at_call 23; refine (HO _).out.mono ?_; rintro e w1 ⟨rfl, hb1⟩; have HX1 := hid (below_new hb1); clear hb1)
    | (go_at_call 25; (with_reducible refine (HT1 _).out.mono ?_); rintro e w2 ⟨v2, rfl, ho2, hb2⟩; have HO2 := hid ho2; have HX2 := hid (below_new hb2); have m0 := HX2.out.1.at (k := 0) (v := .int .i64 ro) rfl; have m1 := HX2.out.1.at (k := 1) (v := .string (str nm)) rfl; have m2 := HX2.out.1.at (k := 2) (v := .int .i64 24) rfl; have m3 := HX2.out.1.at (k := 3) (v := .string (str tk)) rfl; have m4 := HX2.out.1.at (k := 4) (v := .string (str lv)) rfl; have m5 := HX2.out.1.at (k := 5) (v := .bool fx) rfl; clear hb2 ho2)
    | (go_at_call 25; (with_reducible refine (HT2 _).out.mono ?_); rintro e w3 ⟨v3, rfl, ho3, hb3⟩; have HO3 := hid ho3; have HO2' := hid (own_below HO2.out hb3 (Nat.le_refl _)); have HX3 := hid (And.intro (HX2.out.1.call hb3) (HX2.out.2.trans (hb3.mono HX2.out.2.size))); clear m0 m1 m2 m3 m4 m5; have p0 := HX3.out.1.at (k := 0) (v := .int .i64 ro) rfl; have p1 := HX3.out.1.at (k := 1) (v := .string (str nm)) rfl; have p2 := HX3.out.1.at (k := 2) (v := .int .i64 24) rfl; have p3 := HX3.out.1.at (k := 3) (v := .string (str tk)) rfl; have p4 := HX3.out.1.at (k := 4) (v := .string (str lv)) rfl; have p5 := HX3.out.1.at (k := 5) (v := .bool fx) rfl; clear hb3 ho3))
  obtain ⟨g2, c2, rfl⟩ := owned_at HO2'.out (by omega)
  obtain ⟨g3, c3, rfl⟩ : ∃ g cap, v3 = .slice (some ⟨g, 0, none⟩) 1 cap := owned_at HO3.out (Nat.le_refl _)
  have k3 : w3.cell? ⟨g3, 0, none⟩ = some (.int .i64 123) := HO3.out.cellAt 0 (by decide)
  have hg3 : g3 < w3.heap.size := (HO3.out.lt g3 rfl).2
  have hg2 : g2 < w3.heap.size := (HO2'.out.lt g2 rfl).2
  have HTC : Hid (∀ j a, l[j]? = some a → w3.cell? ⟨g2, j, none⟩ = some (.int .i64 a.1)) := fun j a hj => by
    have hjl : j < l.length := (List.getElem?_eq_some_iff.1 hj).1
    rw [HO2'.out.cellAt j (by rw [hlen, HN.out]; omega), HT.out]
    simp [ic, hj]
  have hB3 : Below w.heap.size w w3 := HX1.out.2.trans (HX3.out.2.mono HX1.out.2.size)
  have hR3 : CA w.heap.size #[.int .i64 0, .int .u64 0, .int .u64 0, .bool false] 24 w3 := HX1.out.1.call HX3.out.2
  have HXR := hid HX3.out.1
  have HB3 := hid hB3
  have HR3 := hid hR3
  have hwg : w.heap.size < w1.heap.size := HX1.out.1.lt
  generalize w1.heap.size = g8 at *
  rw [hlen]
  have hz : ((0 : Nat) : Int) = 0 := rfl
  clear HX1 HX2 HX3 HO2 HO2' HO3 HT hlen hB3 hR3
  go_wp2
  have hgi3 : gi < w3.heap.size := Nat.lt_of_lt_of_le hgi HB3.out.size
  have HPW := hid (show ∀ j, j < 16 → w3.cell? ⟨gi, j, none⟩ = some (.int .i64 (P j : Nat)) ∧ (P j : Int) < ll from fun j hj => ⟨(HB3.out.cell (p := ⟨gi, j, none⟩) hgi).trans (HPP.out j hj).1, (HPP.out j hj).2⟩)
  clear HPP
  go_loopw [12] (fun vi wr => ∃ j : Nat, j ≤ 16 ∧ vi = .int .i64 j ∧ Hid (Below w3.heap.size w3 wr)) (fun vi _ => 16 - (intOf vi).toNat)
  case atStart => exact ⟨0, Nat.zero_le _, rfl, Below.refl _ _⟩
  case round =>
    obtain ⟨j, hj, rfl, HBJ⟩ := hrel
    by_cases hjn : j < 16
    · have kj := (HPW.out j hjn).1
      have hxl0 := (HPW.out j hjn).2
      clear HPW HTC HXR HR3 k3 HDD HN HA
      generalize P j = x at *
      have hxl := hid (show ¬ (ll ≤ (x : Int)) by omega)
      have hxl2 := hid (show decide ((x : Int) ≥ ll) = false from decide_eq_false (by omega))
      have hxl3 := hid (show decide (ll ≤ (x : Int)) = false from decide_eq_false (by omega))
      go_upto_region 14 with fail
      have hS : Below w3.heap.size w3 wr.drew := HBJ.out.drew
      clear HBJ
      refine wp_region_held_drew (S := fun W => Below w3.heap.size w3 W) (by kernel_rfl) hS (fun _ => ?_)
      generalize wr.drew = W at *
      refine wpAnyH_take (oi := ⟨_, _, _, _, _, _⟩) (i := 0) (v := .slice (some ⟨gi, 0, none⟩) 16 ci) rfl (by kernel_rfl) (by kernel_rfl) (by kernel_rfl) (fun _ _ _ h => h) (Or.inl ⟨by rfl, ?_⟩) (by assumption) ?_
      · (intro W hSw; have y1 := (hSw.cell (p := ⟨gi, j, none⟩) hgi3).trans kj; have y2 := hxl.out; have y3 := hxl2.out; have y4 := hxl3.out; go_simp; try (with_reducible rfl))
      try simp only [Act.put, List.setIfInBounds_toArray, List.set_cons_zero, List.set_cons_succ]
      refine wpAnyH_take (oi := ⟨_, _, _, _, _, _⟩) (i := 1) (v := .int .i64 j) rfl (by kernel_rfl) (by kernel_rfl) (by kernel_rfl) (fun _ _ _ h => h) (Or.inl ⟨by rfl, ?_⟩) (by assumption) ?_
      · (intro W hSw; have y1 := (hSw.cell (p := ⟨gi, j, none⟩) hgi3).trans kj; have y2 := hxl.out; have y3 := hxl2.out; have y4 := hxl3.out; go_simp; try (with_reducible rfl))
      try simp only [Act.put, List.setIfInBounds_toArray, List.set_cons_zero, List.set_cons_succ]
      refine wpAnyH_take (oi := ⟨_, _, _, _, _, _⟩) (i := 2) (v := .pointer (some ⟨gi, j, none⟩)) rfl (by kernel_rfl) (by kernel_rfl) (by kernel_rfl) (fun _ _ _ h => h) (Or.inl ⟨by rfl, ?_⟩) (by assumption) ?_
      · (intro W hSw; have y1 := (hSw.cell (p := ⟨gi, j, none⟩) hgi3).trans kj; have y2 := hxl.out; have y3 := hxl2.out; have y4 := hxl3.out; go_simp; try (with_reducible rfl))
      try simp only [Act.put, List.setIfInBounds_toArray, List.set_cons_zero, List.set_cons_succ]
      refine wpAnyH_take (oi := ⟨_, _, _, _, _, _⟩) (i := 3) (v := .int .i64 (x : Nat)) rfl (by kernel_rfl) (by kernel_rfl) (by kernel_rfl) (fun _ _ _ h => h) (Or.inl ⟨by rfl, ?_⟩) (by assumption) ?_
      · (intro W hSw; have y1 := (hSw.cell (p := ⟨gi, j, none⟩) hgi3).trans kj; have y2 := hxl.out; have y3 := hxl2.out; have y4 := hxl3.out; go_simp; try (with_reducible rfl))
      try simp only [Act.put, List.setIfInBounds_toArray, List.set_cons_zero, List.set_cons_succ]
      refine wpAnyH_take (oi := ⟨_, _, _, _, _, _⟩) (i := 4) (v := .bool false) rfl (by kernel_rfl) (by kernel_rfl) (by kernel_rfl) (fun _ _ _ h => h) (Or.inl ⟨by rfl, ?_⟩) (by assumption) ?_
      · (intro W hSw; have y1 := (hSw.cell (p := ⟨gi, j, none⟩) hgi3).trans kj; have y2 := hxl.out; have y3 := hxl2.out; have y4 := hxl3.out; go_simp; try (with_reducible rfl))
      try simp only [Act.put, List.setIfInBounds_toArray, List.set_cons_zero, List.set_cons_succ]
      refine wpAnyH_take (oi := ⟨_, _, _, _, _, _⟩) (i := 5) (v := .bool false) rfl (by kernel_rfl) (by kernel_rfl) (by kernel_rfl) (fun _ _ _ h => h) (Or.inl ⟨by rfl, ?_⟩) (by assumption) ?_
      · (intro W hSw; have y1 := (hSw.cell (p := ⟨gi, j, none⟩) hgi3).trans kj; have y2 := hxl.out; have y3 := hxl2.out; have y4 := hxl3.out; go_simp; try (with_reducible rfl))
      try simp only [Act.put, List.setIfInBounds_toArray, List.set_cons_zero, List.set_cons_succ]
      refine wpAnyH_take (oi := ⟨_, _, _, _, _, _⟩) (i := 6) (v := .slice (some ⟨gi, 0, none⟩) 16 ci) rfl (by kernel_rfl) (by kernel_rfl) (by kernel_rfl) (fun _ _ _ h => h) (Or.inl ⟨by rfl, ?_⟩) (by assumption) ?_
      · (intro W hSw; have y1 := (hSw.cell (p := ⟨gi, j, none⟩) hgi3).trans kj; have y2 := hxl.out; have y3 := hxl2.out; have y4 := hxl3.out; go_simp; try (with_reducible rfl))
      try simp only [Act.put, List.setIfInBounds_toArray, List.set_cons_zero, List.set_cons_succ]
      refine wpAnyH_take (oi := ⟨_, _, _, _, _, _⟩) (i := 7) (v := .int .i64 j) rfl (by kernel_rfl) (by kernel_rfl) (by kernel_rfl) (fun _ _ _ h => h) (Or.inl ⟨by rfl, ?_⟩) (by assumption) ?_
      · (intro W hSw; have y1 := (hSw.cell (p := ⟨gi, j, none⟩) hgi3).trans kj; have y2 := hxl.out; have y3 := hxl2.out; have y4 := hxl3.out; go_simp; try (with_reducible rfl))
      try simp only [Act.put, List.setIfInBounds_toArray, List.set_cons_zero, List.set_cons_succ]
      refine wpAnyH_take (oi := ⟨_, _, _, _, _, _⟩) (i := 8) (v := .pointer (some ⟨gi, j, none⟩)) rfl (by kernel_rfl) (by kernel_rfl) (by kernel_rfl) (fun _ _ _ h => h) (Or.inl ⟨by rfl, ?_⟩) (by assumption) ?_
      · (intro W hSw; have y1 := (hSw.cell (p := ⟨gi, j, none⟩) hgi3).trans kj; have y2 := hxl.out; have y3 := hxl2.out; have y4 := hxl3.out; go_simp; try (with_reducible rfl))
      try simp only [Act.put, List.setIfInBounds_toArray, List.set_cons_zero, List.set_cons_succ]
      refine wpAnyH_take (oi := ⟨_, _, _, _, _, _⟩) (i := 9) (v := .int .i64 (x : Nat)) rfl (by kernel_rfl) (by kernel_rfl) (by kernel_rfl) (fun _ _ _ h => h) (Or.inl ⟨by rfl, ?_⟩) (by assumption) ?_
      · (intro W hSw; have y1 := (hSw.cell (p := ⟨gi, j, none⟩) hgi3).trans kj; have y2 := hxl.out; have y3 := hxl2.out; have y4 := hxl3.out; go_simp; try (with_reducible rfl))
      try simp only [Act.put, List.setIfInBounds_toArray, List.set_cons_zero, List.set_cons_succ]
      refine wpAnyH_take (oi := ⟨_, _, _, _, _, _⟩) (i := 10) (v := .int .i64 op) rfl (by kernel_rfl) (by kernel_rfl) (by kernel_rfl) (fun _ _ _ h => h) (Or.inl ⟨by rfl, ?_⟩) (by assumption) ?_
      · (intro W hSw; have y1 := (hSw.cell (p := ⟨gi, j, none⟩) hgi3).trans kj; have y2 := hxl.out; have y3 := hxl2.out; have y4 := hxl3.out; go_simp; try (with_reducible rfl))
      try simp only [Act.put, List.setIfInBounds_toArray, List.set_cons_zero, List.set_cons_succ]
      refine wpAnyH_ready (rs := [11]) (by kernel_rfl) (by simp) ?_
      refine AllReadyH.cons (o := ⟨_, _, _, _, _, _⟩) rfl (fun K hK => ?_) ?_
      · go_simp
        go_at_call 37
        (with_reducible refine (HLN _).out.mono ?_)
        rintro e WL1 ⟨rfl, hbl⟩
        replace hS := hS.trans (hbl.mono hS.size)
        clear hbl
        refine hK.out _ _ hS (fun _ => ?_)
        clear hK K
        try simp only [Act.put, List.setIfInBounds_toArray, List.set_cons_zero, List.set_cons_succ]
        refine wpAnyH_take (oi := ⟨_, _, _, _, _, _⟩) (i := 12) (v := .bool false) rfl (by kernel_rfl) (by kernel_rfl) (by kernel_rfl) (fun _ _ _ h => h) (Or.inl ⟨by rfl, ?_⟩) (by assumption) ?_
        · (intro W hSw; have y1 := (hSw.cell (p := ⟨gi, j, none⟩) hgi3).trans kj; have y2 := hxl.out; have y3 := hxl2.out; have y4 := hxl3.out; go_simp; try (with_reducible rfl))
        try simp only [Act.put, List.setIfInBounds_toArray, List.set_cons_zero, List.set_cons_succ]
        refine wpAnyH_take (oi := ⟨_, _, _, _, _, _⟩) (i := 13) (v := .bool false) rfl (by kernel_rfl) (by kernel_rfl) (by kernel_rfl) (fun _ _ _ h => h) (Or.inl ⟨by rfl, ?_⟩) (by assumption) ?_
        · (intro W hSw; have y1 := (hSw.cell (p := ⟨gi, j, none⟩) hgi3).trans kj; have y2 := hxl.out; have y3 := hxl2.out; have y4 := hxl3.out; go_simp; try (with_reducible rfl))
        try simp only [Act.put, List.setIfInBounds_toArray, List.set_cons_zero, List.set_cons_succ]
        refine wpAnyH_done (by kernel_rfl) ?_ _
        have HB9 := hid hS
        clear hS
        go_wp2_with fail
        go_roundw
        case rel => exact ⟨j + 1, by omega, by first | rfl | go_num, HB9⟩
        case measure => (simp [intOf] <;> omega)
      exact AllReadyH.nil
    obtain rfl : j = 16 := by omega
    have hTC : ∀ j a, l[j]? = some a → wr.cell? ⟨g2, j, none⟩ = some (.int .i64 a.1) := fun j a h => (HBJ.out.cell (p := ⟨g2, j, none⟩) hg2).trans (HTC.out j a h)
    have hXR := hid (HXR.out.call HBJ.out)
    have hR3 := hid (HR3.out.call HBJ.out)
    have hB3 := hid (HB3.out.trans (HBJ.out.mono HB3.out.size))
    have hk3 := (HBJ.out.cell (p := ⟨g3, 0, none⟩) hg3).trans k3
    have hg3' : g3 < wr.heap.size := Nat.lt_of_lt_of_le hg3 HBJ.out.size
    have hg2' : g2 < wr.heap.size := Nat.lt_of_lt_of_le hg2 HBJ.out.size
    have HTC2 := hid hTC
    clear HTC HXR HR3 HB3 k3 hg3 hg2 hTC HBJ HPW hgi3
    have HTC := HTC2
    have HXR := hXR
    have HR3 := hR3
    have HB3 := hB3
    have k3 := hk3
    have hg3 := hg3'
    have hg2 := hg2'
    clear HTC2 hXR hR3 hB3 hk3 hg3' hg2'
    go_wp2
    go_loopw [13] (fun vi ws => ∃ i : Nat, i ≤ n ∧ vi = .int .i64 i ∧ Hid (Below wr.heap.size wr ws)) (fun vi _ => n - (intOf vi).toNat)
    case atStart => exact ⟨0, Nat.zero_le _, rfl, Below.refl _ _⟩
    case round =>
      obtain ⟨i, hin, rfl, HB⟩ := hrel
      by_cases hlt : i < n
      · obtain ⟨a, hja⟩ : ∃ a, l[i]? = some a := ⟨l[i]'(by rw [← HN.out]; exact hlt), by simp [← HN.out, hlt]⟩
        obtain ⟨h0, _, _, _⟩ := HA.out i a hja
        have ht0 := HTC.out i a hja
        have e0 := (HB.out.cell (p := ⟨ga, i * 4, none⟩) (Nat.lt_of_lt_of_le hga HB3.out.size)).trans ((HB3.out.cell (p := ⟨ga, i * 4, none⟩) hga).trans h0)
        have e1 := (HB.out.cell (p := ⟨g2, i, none⟩) hg2).trans ht0
        generalize a.1 = t at *
        have ett : (t != t) = false := by simp
        clear h0 ht0 hja
        go_wp2
        go_region
        go_wp2
        go_roundw
        case rel => exact ⟨i + 1, by omega, by go_num, HB.out.drew⟩
        case measure => simp [intOf]; omega
      · obtain rfl : i = n := by omega
        have hXs := HXR.out.call HB.out
        have hRs := HR3.out.call HB.out
        have hBs := HB3.out.trans (HB.out.mono HB3.out.size)
        have HDW := HDD wr hBs
        have s0 := hXs.at (k := 0) (v := .int .i64 ro) rfl
        have s1 := hXs.at (k := 1) (v := .string (str nm)) rfl
        have s2 := hXs.at (k := 2) (v := .int .i64 24) rfl
        have s3 := hXs.at (k := 3) (v := .string (str tk)) rfl
        have s4 := hXs.at (k := 4) (v := .string (str lv)) rfl
        have s5 := hXs.at (k := 5) (v := .bool fx) rfl
        have k3' := (HB.out.cell (p := ⟨g3, 0, none⟩) hg3).trans k3
        have HRs := hid hRs
        have HBs := hid hBs
        have hg3s : g3 < wr.heap.size := Nat.lt_of_lt_of_le hg3 HB.out.size
        clear hXs hRs hBs
        go_wp2_with (go_at_call 80; refine HDW.out.mono ?_; rintro e w9 ⟨rfl, hb9⟩; have HR9 := hid (HRs.out.call hb9); have HB9 := hid (HBs.out.trans (hb9.mono HBs.out.size)); have k9 : ∀ o, (w9.alloc o).cell? ⟨g3, 0, none⟩ = some (.int .i64 123) := fun o => by { rw [((Below.refl _ w9).alloc (Nat.le_refl _) o).cell (p := ⟨g3, 0, none⟩) (Nat.lt_of_lt_of_le hg3s hb9.size), hb9.cell (p := ⟨g3, 0, none⟩) hg3s]; exact k3' }; have r0 := fun o => (HR9.out.alloc o).at (k := 0) (v := .int .i64 0) rfl; have r1 := fun o => (HR9.out.alloc o).at (k := 1) (v := .int .u64 0) rfl; have r2 := fun o => (HR9.out.alloc o).at (k := 2) (v := .int .u64 0) rfl; have r3 := fun o => (HR9.out.alloc o).at (k := 3) (v := .bool false) rfl; have f0 := fun o => (HR9.out.alloc o).free 0; have f1 := fun o => (HR9.out.alloc o).free 1; have f2 := fun o => (HR9.out.alloc o).free 2; have f3 := fun o => (HR9.out.alloc o).free 3; clear hb9)
        have hBF : Below w.heap.size w _ := ((((HB9.out.alloc HB9.out.size (.cells #[.int .i64 123, .int .u64 (lo : Nat), .int .u64 (hi : Nat), .bool false] 24)).setCell (p := ⟨w.heap.size, 0, none⟩) (Nat.le_refl _) (.int .i64 123)).setCell (p := ⟨w.heap.size, 1, none⟩) (Nat.le_refl _) (.int .u64 (lo : Nat))).setCell (p := ⟨w.heap.size, 2, none⟩) (Nat.le_refl _) (.int .u64 (hi : Nat))).setCell (p := ⟨w.heap.size, 3, none⟩) (Nat.le_refl _) (.bool false)
        refine bodyPost_ret (v := .tuple #[.agg #[.int .i64 123, .int .u64 (lo : Nat), .int .u64 (hi : Nat), .bool false], .int .i64 0]) ?_ rfl ⟨rfl, hBF⟩
        simp [results, Tryz.results38, go_sem, r0, r1, r2, r3]
set_option maxHeartbeats 4000000 in
set_option maxRecDepth 100000 in
theorem RDo_c127 (op : Int) (h64 : 64768 ≤ op) (ro : Int) (nm : List UInt8) (tk lv : List UInt8) (fx : Bool) (hr : ofL op = (ro, nm, 25, tk, lv, fx)) (hro : 0 ≤ ro) (htk : tk.length ≤ 100) (hlv : lv.length ≤ 100) (hlv2 : tyL lv = [127])
    (l : List Av) (hT : tyL tk = l.map (·.1)) (hl1 : 1 ≤ l.length) (hl : l.length ≤ 10) (va : Value) (w : World) (ha : AR w va l) (gi ci : Nat) (hgi : gi < w.heap.size) (P : Nat → Nat) (hP : ∀ j, j < 1 → w.cell? ⟨gi, j, none⟩ = some (.int .i64 (P j : Nat)) ∧ (P j : Int) < refLanes (ofL op)) (lo : Nat) (hlo : lo < 18446744073709551616)
    (HD : ∀ W, Below w.heap.size w W → Calls Tryz.prog 80 #[rwV (ro, nm, 25, tk, lv, fx), .slice (some ⟨gi, 0, none⟩) 1 ci, va] W fun e w' => e = .returned (vv 0 lo 0 false) ∧ Below W.heap.size W w') :
    Calls Tryz.prog 38 #[.int .i64 op, .slice (some ⟨gi, 0, none⟩) 1 ci, va] w fun e w' => e = .returned (.tuple #[vv 127 (lo % 2 ^ 32) 0 false, .int .i64 0]) ∧ Below w.heap.size w w' := by
  have HLN := fun W => hid (RLanes_says op W)
  generalize refLanes (ofL op) = ll at *
  have HPP := hid hP
  clear hP
  have HO := fun W => hid (Of_says op W)
  rw [hr] at HO
  have HT1 := fun W => hid (reftypes_says tk htk W)
  have HT2 := fun W => hid (reftypes_says lv hlv W)
  rw [hlv2] at HT2
  have HDD := fun W h => hid (HD W h)
  have HCUT : ∀ W, Hid (Calls Tryz.prog 81 #[.int .i64 32, .int .u64 (lo : Nat)] W fun e w' => e = .returned (.int .u64 ((lo % 2 ^ 32 : Nat) : Int)) ∧ W = w') := fun W => hid (Cut_any 32 (by decide) lo hlo W)
  generalize lo % 2 ^ 32 = l32 at *
  have HT := hid hT
  have hlen : (tyL tk).length = l.length := by rw [hT, List.length_map]
  obtain ⟨ga, ca, rfl, hga, hca, hata⟩ := ha
  have HA := hid hata
  obtain ⟨n, hn⟩ : ∃ n, n = l.length := ⟨_, rfl⟩
  rw [← hn] at hca hl1 hl hlen ⊢
  rw [← hn] at HDD
  have HN := hid hn
  have hop : ¬ (op < 64768) := by omega
  have hro2 : ¬ (ro < 0) := by omega
  unfold vv at HDD ⊢
  unfold rwV at HO HDD
  generalize tyL tk = ta at *
  clear hr hlv2 HD hT hata hn h64 hro
  go_enter Tryz.func38, Tryz.ntmps38
  go_upto_region 9 with (first
    | (go_at_call 23; refine (HO _).out.mono ?_; rintro e w1 ⟨rfl, hb1⟩; have HX1 := hid (below_new hb1); clear hb1)
    | (go_at_call 25; (with_reducible refine (HT1 _).out.mono ?_); rintro e w2 ⟨v2, rfl, ho2, hb2⟩; have HO2 := hid ho2; have HX2 := hid (below_new hb2); have m0 := HX2.out.1.at (k := 0) (v := .int .i64 ro) rfl; have m1 := HX2.out.1.at (k := 1) (v := .string (str nm)) rfl; have m2 := HX2.out.1.at (k := 2) (v := .int .i64 25) rfl; have m3 := HX2.out.1.at (k := 3) (v := .string (str tk)) rfl; have m4 := HX2.out.1.at (k := 4) (v := .string (str lv)) rfl; have m5 := HX2.out.1.at (k := 5) (v := .bool fx) rfl; clear hb2 ho2)
    | (go_at_call 25; (with_reducible refine (HT2 _).out.mono ?_); rintro e w3 ⟨v3, rfl, ho3, hb3⟩; have HO3 := hid ho3; have HO2' := hid (own_below HO2.out hb3 (Nat.le_refl _)); have HX3 := hid (And.intro (HX2.out.1.call hb3) (HX2.out.2.trans (hb3.mono HX2.out.2.size))); clear m0 m1 m2 m3 m4 m5; have p0 := HX3.out.1.at (k := 0) (v := .int .i64 ro) rfl; have p1 := HX3.out.1.at (k := 1) (v := .string (str nm)) rfl; have p2 := HX3.out.1.at (k := 2) (v := .int .i64 25) rfl; have p3 := HX3.out.1.at (k := 3) (v := .string (str tk)) rfl; have p4 := HX3.out.1.at (k := 4) (v := .string (str lv)) rfl; have p5 := HX3.out.1.at (k := 5) (v := .bool fx) rfl; clear hb3 ho3))
  obtain ⟨g2, c2, rfl⟩ := owned_at HO2'.out (by omega)
  obtain ⟨g3, c3, rfl⟩ : ∃ g cap, v3 = .slice (some ⟨g, 0, none⟩) 1 cap := owned_at HO3.out (Nat.le_refl _)
  have k3 : w3.cell? ⟨g3, 0, none⟩ = some (.int .i64 127) := HO3.out.cellAt 0 (by decide)
  have hg3 : g3 < w3.heap.size := (HO3.out.lt g3 rfl).2
  have hg2 : g2 < w3.heap.size := (HO2'.out.lt g2 rfl).2
  have HTC : Hid (∀ j a, l[j]? = some a → w3.cell? ⟨g2, j, none⟩ = some (.int .i64 a.1)) := fun j a hj => by
    have hjl : j < l.length := (List.getElem?_eq_some_iff.1 hj).1
    rw [HO2'.out.cellAt j (by rw [hlen, HN.out]; omega), HT.out]
    simp [ic, hj]
  have hB3 : Below w.heap.size w w3 := HX1.out.2.trans (HX3.out.2.mono HX1.out.2.size)
  have hR3 : CA w.heap.size #[.int .i64 0, .int .u64 0, .int .u64 0, .bool false] 24 w3 := HX1.out.1.call HX3.out.2
  have HXR := hid HX3.out.1
  have HB3 := hid hB3
  have HR3 := hid hR3
  have hwg : w.heap.size < w1.heap.size := HX1.out.1.lt
  generalize w1.heap.size = g8 at *
  rw [hlen]
  have hz : ((0 : Nat) : Int) = 0 := rfl
  clear HX1 HX2 HX3 HO2 HO2' HO3 HT hlen hB3 hR3
  go_wp2
  have hgi3 : gi < w3.heap.size := Nat.lt_of_lt_of_le hgi HB3.out.size
  have HPW := hid (show ∀ j, j < 1 → w3.cell? ⟨gi, j, none⟩ = some (.int .i64 (P j : Nat)) ∧ (P j : Int) < ll from fun j hj => ⟨(HB3.out.cell (p := ⟨gi, j, none⟩) hgi).trans (HPP.out j hj).1, (HPP.out j hj).2⟩)
  clear HPP
  go_loopw [12] (fun vi wr => ∃ j : Nat, j ≤ 1 ∧ vi = .int .i64 j ∧ Hid (Below w3.heap.size w3 wr)) (fun vi _ => 1 - (intOf vi).toNat)
  case atStart => exact ⟨0, Nat.zero_le _, rfl, Below.refl _ _⟩
  case round =>
    obtain ⟨j, hj, rfl, HBJ⟩ := hrel
    by_cases hjn : j < 1
    · have kj := (HPW.out j hjn).1
      have hxl0 := (HPW.out j hjn).2
      clear HPW HTC HXR HR3 k3 HDD HN HA
      generalize P j = x at *
      have hxl := hid (show ¬ (ll ≤ (x : Int)) by omega)
      have hxl2 := hid (show decide ((x : Int) ≥ ll) = false from decide_eq_false (by omega))
      have hxl3 := hid (show decide (ll ≤ (x : Int)) = false from decide_eq_false (by omega))
      go_upto_region 14 with fail
      have hS : Below w3.heap.size w3 wr.drew := HBJ.out.drew
      clear HBJ
      refine wp_region_held_drew (S := fun W => Below w3.heap.size w3 W) (by kernel_rfl) hS (fun _ => ?_)
      generalize wr.drew = W at *
      refine wpAnyH_take (oi := ⟨_, _, _, _, _, _⟩) (i := 0) (v := .slice (some ⟨gi, 0, none⟩) 1 ci) rfl (by kernel_rfl) (by kernel_rfl) (by kernel_rfl) (fun _ _ _ h => h) (Or.inl ⟨by rfl, ?_⟩) (by assumption) ?_
      · (intro W hSw; have y1 := (hSw.cell (p := ⟨gi, j, none⟩) hgi3).trans kj; have y2 := hxl.out; have y3 := hxl2.out; have y4 := hxl3.out; go_simp; try (with_reducible rfl))
      try simp only [Act.put, List.setIfInBounds_toArray, List.set_cons_zero, List.set_cons_succ]
      refine wpAnyH_take (oi := ⟨_, _, _, _, _, _⟩) (i := 1) (v := .int .i64 j) rfl (by kernel_rfl) (by kernel_rfl) (by kernel_rfl) (fun _ _ _ h => h) (Or.inl ⟨by rfl, ?_⟩) (by assumption) ?_
      · (intro W hSw; have y1 := (hSw.cell (p := ⟨gi, j, none⟩) hgi3).trans kj; have y2 := hxl.out; have y3 := hxl2.out; have y4 := hxl3.out; go_simp; try (with_reducible rfl))
      try simp only [Act.put, List.setIfInBounds_toArray, List.set_cons_zero, List.set_cons_succ]
      refine wpAnyH_take (oi := ⟨_, _, _, _, _, _⟩) (i := 2) (v := .pointer (some ⟨gi, j, none⟩)) rfl (by kernel_rfl) (by kernel_rfl) (by kernel_rfl) (fun _ _ _ h => h) (Or.inl ⟨by rfl, ?_⟩) (by assumption) ?_
      · (intro W hSw; have y1 := (hSw.cell (p := ⟨gi, j, none⟩) hgi3).trans kj; have y2 := hxl.out; have y3 := hxl2.out; have y4 := hxl3.out; go_simp; try (with_reducible rfl))
      try simp only [Act.put, List.setIfInBounds_toArray, List.set_cons_zero, List.set_cons_succ]
      refine wpAnyH_take (oi := ⟨_, _, _, _, _, _⟩) (i := 3) (v := .int .i64 (x : Nat)) rfl (by kernel_rfl) (by kernel_rfl) (by kernel_rfl) (fun _ _ _ h => h) (Or.inl ⟨by rfl, ?_⟩) (by assumption) ?_
      · (intro W hSw; have y1 := (hSw.cell (p := ⟨gi, j, none⟩) hgi3).trans kj; have y2 := hxl.out; have y3 := hxl2.out; have y4 := hxl3.out; go_simp; try (with_reducible rfl))
      try simp only [Act.put, List.setIfInBounds_toArray, List.set_cons_zero, List.set_cons_succ]
      refine wpAnyH_take (oi := ⟨_, _, _, _, _, _⟩) (i := 4) (v := .bool false) rfl (by kernel_rfl) (by kernel_rfl) (by kernel_rfl) (fun _ _ _ h => h) (Or.inl ⟨by rfl, ?_⟩) (by assumption) ?_
      · (intro W hSw; have y1 := (hSw.cell (p := ⟨gi, j, none⟩) hgi3).trans kj; have y2 := hxl.out; have y3 := hxl2.out; have y4 := hxl3.out; go_simp; try (with_reducible rfl))
      try simp only [Act.put, List.setIfInBounds_toArray, List.set_cons_zero, List.set_cons_succ]
      refine wpAnyH_take (oi := ⟨_, _, _, _, _, _⟩) (i := 5) (v := .bool false) rfl (by kernel_rfl) (by kernel_rfl) (by kernel_rfl) (fun _ _ _ h => h) (Or.inl ⟨by rfl, ?_⟩) (by assumption) ?_
      · (intro W hSw; have y1 := (hSw.cell (p := ⟨gi, j, none⟩) hgi3).trans kj; have y2 := hxl.out; have y3 := hxl2.out; have y4 := hxl3.out; go_simp; try (with_reducible rfl))
      try simp only [Act.put, List.setIfInBounds_toArray, List.set_cons_zero, List.set_cons_succ]
      refine wpAnyH_take (oi := ⟨_, _, _, _, _, _⟩) (i := 6) (v := .slice (some ⟨gi, 0, none⟩) 1 ci) rfl (by kernel_rfl) (by kernel_rfl) (by kernel_rfl) (fun _ _ _ h => h) (Or.inl ⟨by rfl, ?_⟩) (by assumption) ?_
      · (intro W hSw; have y1 := (hSw.cell (p := ⟨gi, j, none⟩) hgi3).trans kj; have y2 := hxl.out; have y3 := hxl2.out; have y4 := hxl3.out; go_simp; try (with_reducible rfl))
      try simp only [Act.put, List.setIfInBounds_toArray, List.set_cons_zero, List.set_cons_succ]
      refine wpAnyH_take (oi := ⟨_, _, _, _, _, _⟩) (i := 7) (v := .int .i64 j) rfl (by kernel_rfl) (by kernel_rfl) (by kernel_rfl) (fun _ _ _ h => h) (Or.inl ⟨by rfl, ?_⟩) (by assumption) ?_
      · (intro W hSw; have y1 := (hSw.cell (p := ⟨gi, j, none⟩) hgi3).trans kj; have y2 := hxl.out; have y3 := hxl2.out; have y4 := hxl3.out; go_simp; try (with_reducible rfl))
      try simp only [Act.put, List.setIfInBounds_toArray, List.set_cons_zero, List.set_cons_succ]
      refine wpAnyH_take (oi := ⟨_, _, _, _, _, _⟩) (i := 8) (v := .pointer (some ⟨gi, j, none⟩)) rfl (by kernel_rfl) (by kernel_rfl) (by kernel_rfl) (fun _ _ _ h => h) (Or.inl ⟨by rfl, ?_⟩) (by assumption) ?_
      · (intro W hSw; have y1 := (hSw.cell (p := ⟨gi, j, none⟩) hgi3).trans kj; have y2 := hxl.out; have y3 := hxl2.out; have y4 := hxl3.out; go_simp; try (with_reducible rfl))
      try simp only [Act.put, List.setIfInBounds_toArray, List.set_cons_zero, List.set_cons_succ]
      refine wpAnyH_take (oi := ⟨_, _, _, _, _, _⟩) (i := 9) (v := .int .i64 (x : Nat)) rfl (by kernel_rfl) (by kernel_rfl) (by kernel_rfl) (fun _ _ _ h => h) (Or.inl ⟨by rfl, ?_⟩) (by assumption) ?_
      · (intro W hSw; have y1 := (hSw.cell (p := ⟨gi, j, none⟩) hgi3).trans kj; have y2 := hxl.out; have y3 := hxl2.out; have y4 := hxl3.out; go_simp; try (with_reducible rfl))
      try simp only [Act.put, List.setIfInBounds_toArray, List.set_cons_zero, List.set_cons_succ]
      refine wpAnyH_take (oi := ⟨_, _, _, _, _, _⟩) (i := 10) (v := .int .i64 op) rfl (by kernel_rfl) (by kernel_rfl) (by kernel_rfl) (fun _ _ _ h => h) (Or.inl ⟨by rfl, ?_⟩) (by assumption) ?_
      · (intro W hSw; have y1 := (hSw.cell (p := ⟨gi, j, none⟩) hgi3).trans kj; have y2 := hxl.out; have y3 := hxl2.out; have y4 := hxl3.out; go_simp; try (with_reducible rfl))
      try simp only [Act.put, List.setIfInBounds_toArray, List.set_cons_zero, List.set_cons_succ]
      refine wpAnyH_ready (rs := [11]) (by kernel_rfl) (by simp) ?_
      refine AllReadyH.cons (o := ⟨_, _, _, _, _, _⟩) rfl (fun K hK => ?_) ?_
      · go_simp
        go_at_call 37
        (with_reducible refine (HLN _).out.mono ?_)
        rintro e WL1 ⟨rfl, hbl⟩
        replace hS := hS.trans (hbl.mono hS.size)
        clear hbl
        refine hK.out _ _ hS (fun _ => ?_)
        clear hK K
        try simp only [Act.put, List.setIfInBounds_toArray, List.set_cons_zero, List.set_cons_succ]
        refine wpAnyH_take (oi := ⟨_, _, _, _, _, _⟩) (i := 12) (v := .bool false) rfl (by kernel_rfl) (by kernel_rfl) (by kernel_rfl) (fun _ _ _ h => h) (Or.inl ⟨by rfl, ?_⟩) (by assumption) ?_
        · (intro W hSw; have y1 := (hSw.cell (p := ⟨gi, j, none⟩) hgi3).trans kj; have y2 := hxl.out; have y3 := hxl2.out; have y4 := hxl3.out; go_simp; try (with_reducible rfl))
        try simp only [Act.put, List.setIfInBounds_toArray, List.set_cons_zero, List.set_cons_succ]
        refine wpAnyH_take (oi := ⟨_, _, _, _, _, _⟩) (i := 13) (v := .bool false) rfl (by kernel_rfl) (by kernel_rfl) (by kernel_rfl) (fun _ _ _ h => h) (Or.inl ⟨by rfl, ?_⟩) (by assumption) ?_
        · (intro W hSw; have y1 := (hSw.cell (p := ⟨gi, j, none⟩) hgi3).trans kj; have y2 := hxl.out; have y3 := hxl2.out; have y4 := hxl3.out; go_simp; try (with_reducible rfl))
        try simp only [Act.put, List.setIfInBounds_toArray, List.set_cons_zero, List.set_cons_succ]
        refine wpAnyH_done (by kernel_rfl) ?_ _
        have HB9 := hid hS
        clear hS
        go_wp2_with fail
        go_roundw
        case rel => exact ⟨j + 1, by omega, by first | rfl | go_num, HB9⟩
        case measure => (simp [intOf] <;> omega)
      exact AllReadyH.nil
    obtain rfl : j = 1 := by omega
    have hTC : ∀ j a, l[j]? = some a → wr.cell? ⟨g2, j, none⟩ = some (.int .i64 a.1) := fun j a h => (HBJ.out.cell (p := ⟨g2, j, none⟩) hg2).trans (HTC.out j a h)
    have hXR := hid (HXR.out.call HBJ.out)
    have hR3 := hid (HR3.out.call HBJ.out)
    have hB3 := hid (HB3.out.trans (HBJ.out.mono HB3.out.size))
    have hk3 := (HBJ.out.cell (p := ⟨g3, 0, none⟩) hg3).trans k3
    have hg3' : g3 < wr.heap.size := Nat.lt_of_lt_of_le hg3 HBJ.out.size
    have hg2' : g2 < wr.heap.size := Nat.lt_of_lt_of_le hg2 HBJ.out.size
    have HTC2 := hid hTC
    clear HTC HXR HR3 HB3 k3 hg3 hg2 hTC HBJ HPW hgi3
    have HTC := HTC2
    have HXR := hXR
    have HR3 := hR3
    have HB3 := hB3
    have k3 := hk3
    have hg3 := hg3'
    have hg2 := hg2'
    clear HTC2 hXR hR3 hB3 hk3 hg3' hg2'
    go_wp2
    go_loopw [13] (fun vi ws => ∃ i : Nat, i ≤ n ∧ vi = .int .i64 i ∧ Hid (Below wr.heap.size wr ws)) (fun vi _ => n - (intOf vi).toNat)
    case atStart => exact ⟨0, Nat.zero_le _, rfl, Below.refl _ _⟩
    case round =>
      obtain ⟨i, hin, rfl, HB⟩ := hrel
      by_cases hlt : i < n
      · obtain ⟨a, hja⟩ : ∃ a, l[i]? = some a := ⟨l[i]'(by rw [← HN.out]; exact hlt), by simp [← HN.out, hlt]⟩
        obtain ⟨h0, _, _, _⟩ := HA.out i a hja
        have ht0 := HTC.out i a hja
        have e0 := (HB.out.cell (p := ⟨ga, i * 4, none⟩) (Nat.lt_of_lt_of_le hga HB3.out.size)).trans ((HB3.out.cell (p := ⟨ga, i * 4, none⟩) hga).trans h0)
        have e1 := (HB.out.cell (p := ⟨g2, i, none⟩) hg2).trans ht0
        generalize a.1 = t at *
        have ett : (t != t) = false := by simp
        clear h0 ht0 hja
        go_wp2
        go_region
        go_wp2
        go_roundw
        case rel => exact ⟨i + 1, by omega, by go_num, HB.out.drew⟩
        case measure => simp [intOf]; omega
      · obtain rfl : i = n := by omega
        have hXs := HXR.out.call HB.out
        have hRs := HR3.out.call HB.out
        have hBs := HB3.out.trans (HB.out.mono HB3.out.size)
        have HDW := HDD wr hBs
        have s0 := hXs.at (k := 0) (v := .int .i64 ro) rfl
        have s1 := hXs.at (k := 1) (v := .string (str nm)) rfl
        have s2 := hXs.at (k := 2) (v := .int .i64 25) rfl
        have s3 := hXs.at (k := 3) (v := .string (str tk)) rfl
        have s4 := hXs.at (k := 4) (v := .string (str lv)) rfl
        have s5 := hXs.at (k := 5) (v := .bool fx) rfl
        have k3' := (HB.out.cell (p := ⟨g3, 0, none⟩) hg3).trans k3
        have HRs := hid hRs
        have HBs := hid hBs
        have hg3s : g3 < wr.heap.size := Nat.lt_of_lt_of_le hg3 HB.out.size
        clear hXs hRs hBs
        go_wp2_with (first
          | (go_at_call 80; refine HDW.out.mono ?_; rintro e w9 ⟨rfl, hb9⟩; have HR9 := hid (HRs.out.call hb9); have HB9 := hid (HBs.out.trans (hb9.mono HBs.out.size)); have k9 : ∀ o, (w9.alloc o).cell? ⟨g3, 0, none⟩ = some (.int .i64 127) := fun o => by { rw [((Below.refl _ w9).alloc (Nat.le_refl _) o).cell (p := ⟨g3, 0, none⟩) (Nat.lt_of_lt_of_le hg3s hb9.size), hb9.cell (p := ⟨g3, 0, none⟩) hg3s]; exact k3' }; have r0 := fun o => (HR9.out.alloc o).at (k := 0) (v := .int .i64 0) rfl; have r1 := fun o => (HR9.out.alloc o).at (k := 1) (v := .int .u64 0) rfl; have r2 := fun o => (HR9.out.alloc o).at (k := 2) (v := .int .u64 0) rfl; have r3 := fun o => (HR9.out.alloc o).at (k := 3) (v := .bool false) rfl; have f0 := fun o => (HR9.out.alloc o).free 0; have f1 := fun o => (HR9.out.alloc o).free 1; have f2 := fun o => (HR9.out.alloc o).free 2; have f3 := fun o => (HR9.out.alloc o).free 3; clear hb9)
          | (go_at_call 81; (with_reducible refine (HCUT _).out.mono ?_); rintro e wc ⟨rfl, rfl⟩))
        refine bodyPost_ret (v := .tuple #[.agg #[.int .i64 127, .int .u64 (l32 : Nat), .int .u64 0, .bool false], .int .i64 0]) ?_ rfl ⟨rfl, ?_⟩
        · simp [results, Tryz.results38, go_sem, r0, r1, r2, r3]
        · exact ((((HB9.out.alloc HB9.out.size _).setCell (p := ⟨w.heap.size, 0, none⟩) (Nat.le_refl _) _).setCell (p := ⟨w.heap.size, 1, none⟩) (Nat.le_refl _) _).setCell (p := ⟨w.heap.size, 2, none⟩) (Nat.le_refl _) _).setCell (p := ⟨w.heap.size, 3, none⟩) (Nat.le_refl _) _
set_option maxHeartbeats 4000000 in
set_option maxRecDepth 100000 in
theorem RDo_c125 (op : Int) (h64 : 64768 ≤ op) (ro : Int) (nm : List UInt8) (tk lv : List UInt8) (fx : Bool) (hr : ofL op = (ro, nm, 25, tk, lv, fx)) (hro : 0 ≤ ro) (htk : tk.length ≤ 100) (hlv : lv.length ≤ 100) (hlv2 : tyL lv = [125])
    (l : List Av) (hT : tyL tk = l.map (·.1)) (hl1 : 1 ≤ l.length) (hl : l.length ≤ 10) (va : Value) (w : World) (ha : AR w va l) (gi ci : Nat) (hgi : gi < w.heap.size) (P : Nat → Nat) (hP : ∀ j, j < 1 → w.cell? ⟨gi, j, none⟩ = some (.int .i64 (P j : Nat)) ∧ (P j : Int) < refLanes (ofL op)) (lo : Nat) (hlo : lo < 18446744073709551616)
    (HD : ∀ W, Below w.heap.size w W → Calls Tryz.prog 80 #[rwV (ro, nm, 25, tk, lv, fx), .slice (some ⟨gi, 0, none⟩) 1 ci, va] W fun e w' => e = .returned (vv 0 lo 0 false) ∧ Below W.heap.size W w') :
    Calls Tryz.prog 38 #[.int .i64 op, .slice (some ⟨gi, 0, none⟩) 1 ci, va] w fun e w' => e = .returned (.tuple #[vv 125 (lo % 2 ^ 32) 0 false, .int .i64 0]) ∧ Below w.heap.size w w' := by
  have HLN := fun W => hid (RLanes_says op W)
  generalize refLanes (ofL op) = ll at *
  have HPP := hid hP
  clear hP
  have HO := fun W => hid (Of_says op W)
  rw [hr] at HO
  have HT1 := fun W => hid (reftypes_says tk htk W)
  have HT2 := fun W => hid (reftypes_says lv hlv W)
  rw [hlv2] at HT2
  have HDD := fun W h => hid (HD W h)
  have HCUT : ∀ W, Hid (Calls Tryz.prog 81 #[.int .i64 32, .int .u64 (lo : Nat)] W fun e w' => e = .returned (.int .u64 ((lo % 2 ^ 32 : Nat) : Int)) ∧ W = w') := fun W => hid (Cut_any 32 (by decide) lo hlo W)
  generalize lo % 2 ^ 32 = l32 at *
  have HT := hid hT
  have hlen : (tyL tk).length = l.length := by rw [hT, List.length_map]
  obtain ⟨ga, ca, rfl, hga, hca, hata⟩ := ha
  have HA := hid hata
  obtain ⟨n, hn⟩ : ∃ n, n = l.length := ⟨_, rfl⟩
  rw [← hn] at hca hl1 hl hlen ⊢
  rw [← hn] at HDD
  have HN := hid hn
  have hop : ¬ (op < 64768) := by omega
  have hro2 : ¬ (ro < 0) := by omega
  unfold vv at HDD ⊢
  unfold rwV at HO HDD
  generalize tyL tk = ta at *
  clear hr hlv2 HD hT hata hn h64 hro
  go_enter Tryz.func38, Tryz.ntmps38
  go_upto_region 9 with (first
    | (go_at_call 23; refine (HO _).out.mono ?_; rintro e w1 ⟨rfl, hb1⟩; have HX1 := hid (below_new hb1); clear hb1)
    | (go_at_call 25; (with_reducible refine (HT1 _).out.mono ?_); rintro e w2 ⟨v2, rfl, ho2, hb2⟩; have HO2 := hid ho2; have HX2 := hid (below_new hb2); have m0 := HX2.out.1.at (k := 0) (v := .int .i64 ro) rfl; have m1 := HX2.out.1.at (k := 1) (v := .string (str nm)) rfl; have m2 := HX2.out.1.at (k := 2) (v := .int .i64 25) rfl; have m3 := HX2.out.1.at (k := 3) (v := .string (str tk)) rfl; have m4 := HX2.out.1.at (k := 4) (v := .string (str lv)) rfl; have m5 := HX2.out.1.at (k := 5) (v := .bool fx) rfl; clear hb2 ho2)
    | (go_at_call 25; (with_reducible refine (HT2 _).out.mono ?_); rintro e w3 ⟨v3, rfl, ho3, hb3⟩; have HO3 := hid ho3; have HO2' := hid (own_below HO2.out hb3 (Nat.le_refl _)); have HX3 := hid (And.intro (HX2.out.1.call hb3) (HX2.out.2.trans (hb3.mono HX2.out.2.size))); clear m0 m1 m2 m3 m4 m5; have p0 := HX3.out.1.at (k := 0) (v := .int .i64 ro) rfl; have p1 := HX3.out.1.at (k := 1) (v := .string (str nm)) rfl; have p2 := HX3.out.1.at (k := 2) (v := .int .i64 25) rfl; have p3 := HX3.out.1.at (k := 3) (v := .string (str tk)) rfl; have p4 := HX3.out.1.at (k := 4) (v := .string (str lv)) rfl; have p5 := HX3.out.1.at (k := 5) (v := .bool fx) rfl; clear hb3 ho3))
  obtain ⟨g2, c2, rfl⟩ := owned_at HO2'.out (by omega)
  obtain ⟨g3, c3, rfl⟩ : ∃ g cap, v3 = .slice (some ⟨g, 0, none⟩) 1 cap := owned_at HO3.out (Nat.le_refl _)
  have k3 : w3.cell? ⟨g3, 0, none⟩ = some (.int .i64 125) := HO3.out.cellAt 0 (by decide)
  have hg3 : g3 < w3.heap.size := (HO3.out.lt g3 rfl).2
  have hg2 : g2 < w3.heap.size := (HO2'.out.lt g2 rfl).2
  have HTC : Hid (∀ j a, l[j]? = some a → w3.cell? ⟨g2, j, none⟩ = some (.int .i64 a.1)) := fun j a hj => by
    have hjl : j < l.length := (List.getElem?_eq_some_iff.1 hj).1
    rw [HO2'.out.cellAt j (by rw [hlen, HN.out]; omega), HT.out]
    simp [ic, hj]
  have hB3 : Below w.heap.size w w3 := HX1.out.2.trans (HX3.out.2.mono HX1.out.2.size)
  have hR3 : CA w.heap.size #[.int .i64 0, .int .u64 0, .int .u64 0, .bool false] 24 w3 := HX1.out.1.call HX3.out.2
  have HXR := hid HX3.out.1
  have HB3 := hid hB3
  have HR3 := hid hR3
  have hwg : w.heap.size < w1.heap.size := HX1.out.1.lt
  generalize w1.heap.size = g8 at *
  rw [hlen]
  have hz : ((0 : Nat) : Int) = 0 := rfl
  clear HX1 HX2 HX3 HO2 HO2' HO3 HT hlen hB3 hR3
  go_wp2
  have hgi3 : gi < w3.heap.size := Nat.lt_of_lt_of_le hgi HB3.out.size
  have HPW := hid (show ∀ j, j < 1 → w3.cell? ⟨gi, j, none⟩ = some (.int .i64 (P j : Nat)) ∧ (P j : Int) < ll from fun j hj => ⟨(HB3.out.cell (p := ⟨gi, j, none⟩) hgi).trans (HPP.out j hj).1, (HPP.out j hj).2⟩)
  clear HPP
  go_loopw [12] (fun vi wr => ∃ j : Nat, j ≤ 1 ∧ vi = .int .i64 j ∧ Hid (Below w3.heap.size w3 wr)) (fun vi _ => 1 - (intOf vi).toNat)
  case atStart => exact ⟨0, Nat.zero_le _, rfl, Below.refl _ _⟩
  case round =>
    obtain ⟨j, hj, rfl, HBJ⟩ := hrel
    by_cases hjn : j < 1
    · have kj := (HPW.out j hjn).1
      have hxl0 := (HPW.out j hjn).2
      clear HPW HTC HXR HR3 k3 HDD HN HA
      generalize P j = x at *
      have hxl := hid (show ¬ (ll ≤ (x : Int)) by omega)
      have hxl2 := hid (show decide ((x : Int) ≥ ll) = false from decide_eq_false (by omega))
      have hxl3 := hid (show decide (ll ≤ (x : Int)) = false from decide_eq_false (by omega))
      go_upto_region 14 with fail
      have hS : Below w3.heap.size w3 wr.drew := HBJ.out.drew
      clear HBJ
      refine wp_region_held_drew (S := fun W => Below w3.heap.size w3 W) (by kernel_rfl) hS (fun _ => ?_)
      generalize wr.drew = W at *
      refine wpAnyH_take (oi := ⟨_, _, _, _, _, _⟩) (i := 0) (v := .slice (some ⟨gi, 0, none⟩) 1 ci) rfl (by kernel_rfl) (by kernel_rfl) (by kernel_rfl) (fun _ _ _ h => h) (Or.inl ⟨by rfl, ?_⟩) (by assumption) ?_
      · (intro W hSw; have y1 := (hSw.cell (p := ⟨gi, j, none⟩) hgi3).trans kj; have y2 := hxl.out; have y3 := hxl2.out; have y4 := hxl3.out; go_simp; try (with_reducible rfl))
      try simp only [Act.put, List.setIfInBounds_toArray, List.set_cons_zero, List.set_cons_succ]
      refine wpAnyH_take (oi := ⟨_, _, _, _, _, _⟩) (i := 1) (v := .int .i64 j) rfl (by kernel_rfl) (by kernel_rfl) (by kernel_rfl) (fun _ _ _ h => h) (Or.inl ⟨by rfl, ?_⟩) (by assumption) ?_
      · (intro W hSw; have y1 := (hSw.cell (p := ⟨gi, j, none⟩) hgi3).trans kj; have y2 := hxl.out; have y3 := hxl2.out; have y4 := hxl3.out; go_simp; try (with_reducible rfl))
      try simp only [Act.put, List.setIfInBounds_toArray, List.set_cons_zero, List.set_cons_succ]
      refine wpAnyH_take (oi := ⟨_, _, _, _, _, _⟩) (i := 2) (v := .pointer (some ⟨gi, j, none⟩)) rfl (by kernel_rfl) (by kernel_rfl) (by kernel_rfl) (fun _ _ _ h => h) (Or.inl ⟨by rfl, ?_⟩) (by assumption) ?_
      · (intro W hSw; have y1 := (hSw.cell (p := ⟨gi, j, none⟩) hgi3).trans kj; have y2 := hxl.out; have y3 := hxl2.out; have y4 := hxl3.out; go_simp; try (with_reducible rfl))
      try simp only [Act.put, List.setIfInBounds_toArray, List.set_cons_zero, List.set_cons_succ]
      refine wpAnyH_take (oi := ⟨_, _, _, _, _, _⟩) (i := 3) (v := .int .i64 (x : Nat)) rfl (by kernel_rfl) (by kernel_rfl) (by kernel_rfl) (fun _ _ _ h => h) (Or.inl ⟨by rfl, ?_⟩) (by assumption) ?_
      · (intro W hSw; have y1 := (hSw.cell (p := ⟨gi, j, none⟩) hgi3).trans kj; have y2 := hxl.out; have y3 := hxl2.out; have y4 := hxl3.out; go_simp; try (with_reducible rfl))
      try simp only [Act.put, List.setIfInBounds_toArray, List.set_cons_zero, List.set_cons_succ]
      refine wpAnyH_take (oi := ⟨_, _, _, _, _, _⟩) (i := 4) (v := .bool false) rfl (by kernel_rfl) (by kernel_rfl) (by kernel_rfl) (fun _ _ _ h => h) (Or.inl ⟨by rfl, ?_⟩) (by assumption) ?_
      · (intro W hSw; have y1 := (hSw.cell (p := ⟨gi, j, none⟩) hgi3).trans kj; have y2 := hxl.out; have y3 := hxl2.out; have y4 := hxl3.out; go_simp; try (with_reducible rfl))
      try simp only [Act.put, List.setIfInBounds_toArray, List.set_cons_zero, List.set_cons_succ]
      refine wpAnyH_take (oi := ⟨_, _, _, _, _, _⟩) (i := 5) (v := .bool false) rfl (by kernel_rfl) (by kernel_rfl) (by kernel_rfl) (fun _ _ _ h => h) (Or.inl ⟨by rfl, ?_⟩) (by assumption) ?_
      · (intro W hSw; have y1 := (hSw.cell (p := ⟨gi, j, none⟩) hgi3).trans kj; have y2 := hxl.out; have y3 := hxl2.out; have y4 := hxl3.out; go_simp; try (with_reducible rfl))
      try simp only [Act.put, List.setIfInBounds_toArray, List.set_cons_zero, List.set_cons_succ]
      refine wpAnyH_take (oi := ⟨_, _, _, _, _, _⟩) (i := 6) (v := .slice (some ⟨gi, 0, none⟩) 1 ci) rfl (by kernel_rfl) (by kernel_rfl) (by kernel_rfl) (fun _ _ _ h => h) (Or.inl ⟨by rfl, ?_⟩) (by assumption) ?_
      · (intro W hSw; have y1 := (hSw.cell (p := ⟨gi, j, none⟩) hgi3).trans kj; have y2 := hxl.out; have y3 := hxl2.out; have y4 := hxl3.out; go_simp; try (with_reducible rfl))
      try simp only [Act.put, List.setIfInBounds_toArray, List.set_cons_zero, List.set_cons_succ]
      refine wpAnyH_take (oi := ⟨_, _, _, _, _, _⟩) (i := 7) (v := .int .i64 j) rfl (by kernel_rfl) (by kernel_rfl) (by kernel_rfl) (fun _ _ _ h => h) (Or.inl ⟨by rfl, ?_⟩) (by assumption) ?_
      · (intro W hSw; have y1 := (hSw.cell (p := ⟨gi, j, none⟩) hgi3).trans kj; have y2 := hxl.out; have y3 := hxl2.out; have y4 := hxl3.out; go_simp; try (with_reducible rfl))
      try simp only [Act.put, List.setIfInBounds_toArray, List.set_cons_zero, List.set_cons_succ]
      refine wpAnyH_take (oi := ⟨_, _, _, _, _, _⟩) (i := 8) (v := .pointer (some ⟨gi, j, none⟩)) rfl (by kernel_rfl) (by kernel_rfl) (by kernel_rfl) (fun _ _ _ h => h) (Or.inl ⟨by rfl, ?_⟩) (by assumption) ?_
      · (intro W hSw; have y1 := (hSw.cell (p := ⟨gi, j, none⟩) hgi3).trans kj; have y2 := hxl.out; have y3 := hxl2.out; have y4 := hxl3.out; go_simp; try (with_reducible rfl))
      try simp only [Act.put, List.setIfInBounds_toArray, List.set_cons_zero, List.set_cons_succ]
      refine wpAnyH_take (oi := ⟨_, _, _, _, _, _⟩) (i := 9) (v := .int .i64 (x : Nat)) rfl (by kernel_rfl) (by kernel_rfl) (by kernel_rfl) (fun _ _ _ h => h) (Or.inl ⟨by rfl, ?_⟩) (by assumption) ?_
      · (intro W hSw; have y1 := (hSw.cell (p := ⟨gi, j, none⟩) hgi3).trans kj; have y2 := hxl.out; have y3 := hxl2.out; have y4 := hxl3.out; go_simp; try (with_reducible rfl))
      try simp only [Act.put, List.setIfInBounds_toArray, List.set_cons_zero, List.set_cons_succ]
      refine wpAnyH_take (oi := ⟨_, _, _, _, _, _⟩) (i := 10) (v := .int .i64 op) rfl (by kernel_rfl) (by kernel_rfl) (by kernel_rfl) (fun _ _ _ h => h) (Or.inl ⟨by rfl, ?_⟩) (by assumption) ?_
      · (intro W hSw; have y1 := (hSw.cell (p := ⟨gi, j, none⟩) hgi3).trans kj; have y2 := hxl.out; have y3 := hxl2.out; have y4 := hxl3.out; go_simp; try (with_reducible rfl))
      try simp only [Act.put, List.setIfInBounds_toArray, List.set_cons_zero, List.set_cons_succ]
      refine wpAnyH_ready (rs := [11]) (by kernel_rfl) (by simp) ?_
      refine AllReadyH.cons (o := ⟨_, _, _, _, _, _⟩) rfl (fun K hK => ?_) ?_
      · go_simp
        go_at_call 37
        (with_reducible refine (HLN _).out.mono ?_)
        rintro e WL1 ⟨rfl, hbl⟩
        replace hS := hS.trans (hbl.mono hS.size)
        clear hbl
        refine hK.out _ _ hS (fun _ => ?_)
        clear hK K
        try simp only [Act.put, List.setIfInBounds_toArray, List.set_cons_zero, List.set_cons_succ]
        refine wpAnyH_take (oi := ⟨_, _, _, _, _, _⟩) (i := 12) (v := .bool false) rfl (by kernel_rfl) (by kernel_rfl) (by kernel_rfl) (fun _ _ _ h => h) (Or.inl ⟨by rfl, ?_⟩) (by assumption) ?_
        · (intro W hSw; have y1 := (hSw.cell (p := ⟨gi, j, none⟩) hgi3).trans kj; have y2 := hxl.out; have y3 := hxl2.out; have y4 := hxl3.out; go_simp; try (with_reducible rfl))
        try simp only [Act.put, List.setIfInBounds_toArray, List.set_cons_zero, List.set_cons_succ]
        refine wpAnyH_take (oi := ⟨_, _, _, _, _, _⟩) (i := 13) (v := .bool false) rfl (by kernel_rfl) (by kernel_rfl) (by kernel_rfl) (fun _ _ _ h => h) (Or.inl ⟨by rfl, ?_⟩) (by assumption) ?_
        · (intro W hSw; have y1 := (hSw.cell (p := ⟨gi, j, none⟩) hgi3).trans kj; have y2 := hxl.out; have y3 := hxl2.out; have y4 := hxl3.out; go_simp; try (with_reducible rfl))
        try simp only [Act.put, List.setIfInBounds_toArray, List.set_cons_zero, List.set_cons_succ]
        refine wpAnyH_done (by kernel_rfl) ?_ _
        have HB9 := hid hS
        clear hS
        go_wp2_with fail
        go_roundw
        case rel => exact ⟨j + 1, by omega, by first | rfl | go_num, HB9⟩
        case measure => (simp [intOf] <;> omega)
      exact AllReadyH.nil
    obtain rfl : j = 1 := by omega
    have hTC : ∀ j a, l[j]? = some a → wr.cell? ⟨g2, j, none⟩ = some (.int .i64 a.1) := fun j a h => (HBJ.out.cell (p := ⟨g2, j, none⟩) hg2).trans (HTC.out j a h)
    have hXR := hid (HXR.out.call HBJ.out)
    have hR3 := hid (HR3.out.call HBJ.out)
    have hB3 := hid (HB3.out.trans (HBJ.out.mono HB3.out.size))
    have hk3 := (HBJ.out.cell (p := ⟨g3, 0, none⟩) hg3).trans k3
    have hg3' : g3 < wr.heap.size := Nat.lt_of_lt_of_le hg3 HBJ.out.size
    have hg2' : g2 < wr.heap.size := Nat.lt_of_lt_of_le hg2 HBJ.out.size
    have HTC2 := hid hTC
    clear HTC HXR HR3 HB3 k3 hg3 hg2 hTC HBJ HPW hgi3
    have HTC := HTC2
    have HXR := hXR
    have HR3 := hR3
    have HB3 := hB3
    have k3 := hk3
    have hg3 := hg3'
    have hg2 := hg2'
    clear HTC2 hXR hR3 hB3 hk3 hg3' hg2'
    go_wp2
    go_loopw [13] (fun vi ws => ∃ i : Nat, i ≤ n ∧ vi = .int .i64 i ∧ Hid (Below wr.heap.size wr ws)) (fun vi _ => n - (intOf vi).toNat)
    case atStart => exact ⟨0, Nat.zero_le _, rfl, Below.refl _ _⟩
    case round =>
      obtain ⟨i, hin, rfl, HB⟩ := hrel
      by_cases hlt : i < n
      · obtain ⟨a, hja⟩ : ∃ a, l[i]? = some a := ⟨l[i]'(by rw [← HN.out]; exact hlt), by simp [← HN.out, hlt]⟩
        obtain ⟨h0, _, _, _⟩ := HA.out i a hja
        have ht0 := HTC.out i a hja
        have e0 := (HB.out.cell (p := ⟨ga, i * 4, none⟩) (Nat.lt_of_lt_of_le hga HB3.out.size)).trans ((HB3.out.cell (p := ⟨ga, i * 4, none⟩) hga).trans h0)
        have e1 := (HB.out.cell (p := ⟨g2, i, none⟩) hg2).trans ht0
        generalize a.1 = t at *
        have ett : (t != t) = false := by simp
        clear h0 ht0 hja
        go_wp2
        go_region
        go_wp2
        go_roundw
        case rel => exact ⟨i + 1, by omega, by go_num, HB.out.drew⟩
        case measure => simp [intOf]; omega
      · obtain rfl : i = n := by omega
        have hXs := HXR.out.call HB.out
        have hRs := HR3.out.call HB.out
        have hBs := HB3.out.trans (HB.out.mono HB3.out.size)
        have HDW := HDD wr hBs
        have s0 := hXs.at (k := 0) (v := .int .i64 ro) rfl
        have s1 := hXs.at (k := 1) (v := .string (str nm)) rfl
        have s2 := hXs.at (k := 2) (v := .int .i64 25) rfl
        have s3 := hXs.at (k := 3) (v := .string (str tk)) rfl
        have s4 := hXs.at (k := 4) (v := .string (str lv)) rfl
        have s5 := hXs.at (k := 5) (v := .bool fx) rfl
        have k3' := (HB.out.cell (p := ⟨g3, 0, none⟩) hg3).trans k3
        have HRs := hid hRs
        have HBs := hid hBs
        have hg3s : g3 < wr.heap.size := Nat.lt_of_lt_of_le hg3 HB.out.size
        clear hXs hRs hBs
        go_wp2_with (first
          | (go_at_call 80; refine HDW.out.mono ?_; rintro e w9 ⟨rfl, hb9⟩; have HR9 := hid (HRs.out.call hb9); have HB9 := hid (HBs.out.trans (hb9.mono HBs.out.size)); have k9 : ∀ o, (w9.alloc o).cell? ⟨g3, 0, none⟩ = some (.int .i64 125) := fun o => by { rw [((Below.refl _ w9).alloc (Nat.le_refl _) o).cell (p := ⟨g3, 0, none⟩) (Nat.lt_of_lt_of_le hg3s hb9.size), hb9.cell (p := ⟨g3, 0, none⟩) hg3s]; exact k3' }; have r0 := fun o => (HR9.out.alloc o).at (k := 0) (v := .int .i64 0) rfl; have r1 := fun o => (HR9.out.alloc o).at (k := 1) (v := .int .u64 0) rfl; have r2 := fun o => (HR9.out.alloc o).at (k := 2) (v := .int .u64 0) rfl; have r3 := fun o => (HR9.out.alloc o).at (k := 3) (v := .bool false) rfl; have f0 := fun o => (HR9.out.alloc o).free 0; have f1 := fun o => (HR9.out.alloc o).free 1; have f2 := fun o => (HR9.out.alloc o).free 2; have f3 := fun o => (HR9.out.alloc o).free 3; clear hb9)
          | (go_at_call 81; (with_reducible refine (HCUT _).out.mono ?_); rintro e wc ⟨rfl, rfl⟩))
        refine bodyPost_ret (v := .tuple #[.agg #[.int .i64 125, .int .u64 (l32 : Nat), .int .u64 0, .bool false], .int .i64 0]) ?_ rfl ⟨rfl, ?_⟩
        · simp [results, Tryz.results38, go_sem, r0, r1, r2, r3]
        · exact ((((HB9.out.alloc HB9.out.size _).setCell (p := ⟨w.heap.size, 0, none⟩) (Nat.le_refl _) _).setCell (p := ⟨w.heap.size, 1, none⟩) (Nat.le_refl _) _).setCell (p := ⟨w.heap.size, 2, none⟩) (Nat.le_refl _) _).setCell (p := ⟨w.heap.size, 3, none⟩) (Nat.le_refl _) _
set_option maxHeartbeats 4000000 in
set_option maxRecDepth 100000 in
theorem RDo_p126 (op : Int) (h64 : 64768 ≤ op) (ro : Int) (nm : List UInt8) (tk lv : List UInt8) (fx : Bool) (hr : ofL op = (ro, nm, 25, tk, lv, fx)) (hro : 0 ≤ ro) (htk : tk.length ≤ 100) (hlv : lv.length ≤ 100) (hlv2 : tyL lv = [126])
    (l : List Av) (hT : tyL tk = l.map (·.1)) (hl1 : 1 ≤ l.length) (hl : l.length ≤ 10) (va : Value) (w : World) (ha : AR w va l) (gi ci : Nat) (hgi : gi < w.heap.size) (P : Nat → Nat) (hP : ∀ j, j < 1 → w.cell? ⟨gi, j, none⟩ = some (.int .i64 (P j : Nat)) ∧ (P j : Int) < refLanes (ofL op)) (lo hi : Nat)
    (HD : ∀ W, Below w.heap.size w W → Calls Tryz.prog 80 #[rwV (ro, nm, 25, tk, lv, fx), .slice (some ⟨gi, 0, none⟩) 1 ci, va] W fun e w' => e = .returned (vv 0 lo hi false) ∧ Below W.heap.size W w') :
    Calls Tryz.prog 38 #[.int .i64 op, .slice (some ⟨gi, 0, none⟩) 1 ci, va] w fun e w' => e = .returned (.tuple #[vv 126 lo hi false, .int .i64 0]) ∧ Below w.heap.size w w' := by
  have HLN := fun W => hid (RLanes_says op W)
  generalize refLanes (ofL op) = ll at *
  have HPP := hid hP
  clear hP
  have HO := fun W => hid (Of_says op W)
  rw [hr] at HO
  have HT1 := fun W => hid (reftypes_says tk htk W)
  have HT2 := fun W => hid (reftypes_says lv hlv W)
  rw [hlv2] at HT2
  have HDD := fun W h => hid (HD W h)
  have HT := hid hT
  have hlen : (tyL tk).length = l.length := by rw [hT, List.length_map]
  obtain ⟨ga, ca, rfl, hga, hca, hata⟩ := ha
  have HA := hid hata
  obtain ⟨n, hn⟩ : ∃ n, n = l.length := ⟨_, rfl⟩
  rw [← hn] at hca hl1 hl hlen ⊢
  rw [← hn] at HDD
  have HN := hid hn
  have hop : ¬ (op < 64768) := by omega
  have hro2 : ¬ (ro < 0) := by omega
  unfold vv at HDD ⊢
  unfold rwV at HO HDD
  generalize tyL tk = ta at *
  clear hr hlv2 HD hT hata hn h64 hro
  go_enter Tryz.func38, Tryz.ntmps38
  go_upto_region 9 with (first
    | (go_at_call 23; refine (HO _).out.mono ?_; rintro e w1 ⟨rfl, hb1⟩; have HX1 := hid (below_new hb1); clear hb1)
    | (go_at_call 25; (with_reducible refine (HT1 _).out.mono ?_); rintro e w2 ⟨v2, rfl, ho2, hb2⟩; have HO2 := hid ho2; have HX2 := hid (below_new hb2); have m0 := HX2.out.1.at (k := 0) (v := .int .i64 ro) rfl; have m1 := HX2.out.1.at (k := 1) (v := .string (str nm)) rfl; have m2 := HX2.out.1.at (k := 2) (v := .int .i64 25) rfl; have m3 := HX2.out.1.at (k := 3) (v := .string (str tk)) rfl; have m4 := HX2.out.1.at (k := 4) (v := .string (str lv)) rfl; have m5 := HX2.out.1.at (k := 5) (v := .bool fx) rfl; clear hb2 ho2)
    | (go_at_call 25; (with_reducible refine (HT2 _).out.mono ?_); rintro e w3 ⟨v3, rfl, ho3, hb3⟩; have HO3 := hid ho3; have HO2' := hid (own_below HO2.out hb3 (Nat.le_refl _)); have HX3 := hid (And.intro (HX2.out.1.call hb3) (HX2.out.2.trans (hb3.mono HX2.out.2.size))); clear m0 m1 m2 m3 m4 m5; have p0 := HX3.out.1.at (k := 0) (v := .int .i64 ro) rfl; have p1 := HX3.out.1.at (k := 1) (v := .string (str nm)) rfl; have p2 := HX3.out.1.at (k := 2) (v := .int .i64 25) rfl; have p3 := HX3.out.1.at (k := 3) (v := .string (str tk)) rfl; have p4 := HX3.out.1.at (k := 4) (v := .string (str lv)) rfl; have p5 := HX3.out.1.at (k := 5) (v := .bool fx) rfl; clear hb3 ho3))
  obtain ⟨g2, c2, rfl⟩ := owned_at HO2'.out (by omega)
  obtain ⟨g3, c3, rfl⟩ : ∃ g cap, v3 = .slice (some ⟨g, 0, none⟩) 1 cap := owned_at HO3.out (Nat.le_refl _)
  have k3 : w3.cell? ⟨g3, 0, none⟩ = some (.int .i64 126) := HO3.out.cellAt 0 (by decide)
  have hg3 : g3 < w3.heap.size := (HO3.out.lt g3 rfl).2
  have hg2 : g2 < w3.heap.size := (HO2'.out.lt g2 rfl).2
  have HTC : Hid (∀ j a, l[j]? = some a → w3.cell? ⟨g2, j, none⟩ = some (.int .i64 a.1)) := fun j a hj => by
    have hjl : j < l.length := (List.getElem?_eq_some_iff.1 hj).1
    rw [HO2'.out.cellAt j (by rw [hlen, HN.out]; omega), HT.out]
    simp [ic, hj]
  have hB3 : Below w.heap.size w w3 := HX1.out.2.trans (HX3.out.2.mono HX1.out.2.size)
  have hR3 : CA w.heap.size #[.int .i64 0, .int .u64 0, .int .u64 0, .bool false] 24 w3 := HX1.out.1.call HX3.out.2
  have HXR := hid HX3.out.1
  have HB3 := hid hB3
  have HR3 := hid hR3
  have hwg : w.heap.size < w1.heap.size := HX1.out.1.lt
  generalize w1.heap.size = g8 at *
  rw [hlen]
  have hz : ((0 : Nat) : Int) = 0 := rfl
  clear HX1 HX2 HX3 HO2 HO2' HO3 HT hlen hB3 hR3
  go_wp2
  have hgi3 : gi < w3.heap.size := Nat.lt_of_lt_of_le hgi HB3.out.size
  have HPW := hid (show ∀ j, j < 1 → w3.cell? ⟨gi, j, none⟩ = some (.int .i64 (P j : Nat)) ∧ (P j : Int) < ll from fun j hj => ⟨(HB3.out.cell (p := ⟨gi, j, none⟩) hgi).trans (HPP.out j hj).1, (HPP.out j hj).2⟩)
  clear HPP
  go_loopw [12] (fun vi wr => ∃ j : Nat, j ≤ 1 ∧ vi = .int .i64 j ∧ Hid (Below w3.heap.size w3 wr)) (fun vi _ => 1 - (intOf vi).toNat)
  case atStart => exact ⟨0, Nat.zero_le _, rfl, Below.refl _ _⟩
  case round =>
    obtain ⟨j, hj, rfl, HBJ⟩ := hrel
    by_cases hjn : j < 1
    · have kj := (HPW.out j hjn).1
      have hxl0 := (HPW.out j hjn).2
      clear HPW HTC HXR HR3 k3 HDD HN HA
      generalize P j = x at *
      have hxl := hid (show ¬ (ll ≤ (x : Int)) by omega)
      have hxl2 := hid (show decide ((x : Int) ≥ ll) = false from decide_eq_false (by omega))
      have hxl3 := hid (show decide (ll ≤ (x : Int)) = false from decide_eq_false (by omega))
      go_upto_region 14 with fail
      have hS : Below w3.heap.size w3 wr.drew := HBJ.out.drew
      clear HBJ
      refine wp_region_held_drew (S := fun W => Below w3.heap.size w3 W) (by kernel_rfl) hS (fun _ => ?_)
      generalize wr.drew = W at *
      refine wpAnyH_take (oi := ⟨_, _, _, _, _, _⟩) (i := 0) (v := .slice (some ⟨gi, 0, none⟩) 1 ci) rfl (by kernel_rfl) (by kernel_rfl) (by kernel_rfl) (fun _ _ _ h => h) (Or.inl ⟨by rfl, ?_⟩) (by assumption) ?_
      · (intro W hSw; have y1 := (hSw.cell (p := ⟨gi, j, none⟩) hgi3).trans kj; have y2 := hxl.out; have y3 := hxl2.out; have y4 := hxl3.out; go_simp; try (with_reducible rfl))
      try simp only [Act.put, List.setIfInBounds_toArray, List.set_cons_zero, List.set_cons_succ]
      refine wpAnyH_take (oi := ⟨_, _, _, _, _, _⟩) (i := 1) (v := .int .i64 j) rfl (by kernel_rfl) (by kernel_rfl) (by kernel_rfl) (fun _ _ _ h => h) (Or.inl ⟨by rfl, ?_⟩) (by assumption) ?_
      · (intro W hSw; have y1 := (hSw.cell (p := ⟨gi, j, none⟩) hgi3).trans kj; have y2 := hxl.out; have y3 := hxl2.out; have y4 := hxl3.out; go_simp; try (with_reducible rfl))
      try simp only [Act.put, List.setIfInBounds_toArray, List.set_cons_zero, List.set_cons_succ]
      refine wpAnyH_take (oi := ⟨_, _, _, _, _, _⟩) (i := 2) (v := .pointer (some ⟨gi, j, none⟩)) rfl (by kernel_rfl) (by kernel_rfl) (by kernel_rfl) (fun _ _ _ h => h) (Or.inl ⟨by rfl, ?_⟩) (by assumption) ?_
      · (intro W hSw; have y1 := (hSw.cell (p := ⟨gi, j, none⟩) hgi3).trans kj; have y2 := hxl.out; have y3 := hxl2.out; have y4 := hxl3.out; go_simp; try (with_reducible rfl))
      try simp only [Act.put, List.setIfInBounds_toArray, List.set_cons_zero, List.set_cons_succ]
      refine wpAnyH_take (oi := ⟨_, _, _, _, _, _⟩) (i := 3) (v := .int .i64 (x : Nat)) rfl (by kernel_rfl) (by kernel_rfl) (by kernel_rfl) (fun _ _ _ h => h) (Or.inl ⟨by rfl, ?_⟩) (by assumption) ?_
      · (intro W hSw; have y1 := (hSw.cell (p := ⟨gi, j, none⟩) hgi3).trans kj; have y2 := hxl.out; have y3 := hxl2.out; have y4 := hxl3.out; go_simp; try (with_reducible rfl))
      try simp only [Act.put, List.setIfInBounds_toArray, List.set_cons_zero, List.set_cons_succ]
      refine wpAnyH_take (oi := ⟨_, _, _, _, _, _⟩) (i := 4) (v := .bool false) rfl (by kernel_rfl) (by kernel_rfl) (by kernel_rfl) (fun _ _ _ h => h) (Or.inl ⟨by rfl, ?_⟩) (by assumption) ?_
      · (intro W hSw; have y1 := (hSw.cell (p := ⟨gi, j, none⟩) hgi3).trans kj; have y2 := hxl.out; have y3 := hxl2.out; have y4 := hxl3.out; go_simp; try (with_reducible rfl))
      try simp only [Act.put, List.setIfInBounds_toArray, List.set_cons_zero, List.set_cons_succ]
      refine wpAnyH_take (oi := ⟨_, _, _, _, _, _⟩) (i := 5) (v := .bool false) rfl (by kernel_rfl) (by kernel_rfl) (by kernel_rfl) (fun _ _ _ h => h) (Or.inl ⟨by rfl, ?_⟩) (by assumption) ?_
      · (intro W hSw; have y1 := (hSw.cell (p := ⟨gi, j, none⟩) hgi3).trans kj; have y2 := hxl.out; have y3 := hxl2.out; have y4 := hxl3.out; go_simp; try (with_reducible rfl))
      try simp only [Act.put, List.setIfInBounds_toArray, List.set_cons_zero, List.set_cons_succ]
      refine wpAnyH_take (oi := ⟨_, _, _, _, _, _⟩) (i := 6) (v := .slice (some ⟨gi, 0, none⟩) 1 ci) rfl (by kernel_rfl) (by kernel_rfl) (by kernel_rfl) (fun _ _ _ h => h) (Or.inl ⟨by rfl, ?_⟩) (by assumption) ?_
      · (intro W hSw; have y1 := (hSw.cell (p := ⟨gi, j, none⟩) hgi3).trans kj; have y2 := hxl.out; have y3 := hxl2.out; have y4 := hxl3.out; go_simp; try (with_reducible rfl))
      try simp only [Act.put, List.setIfInBounds_toArray, List.set_cons_zero, List.set_cons_succ]
      refine wpAnyH_take (oi := ⟨_, _, _, _, _, _⟩) (i := 7) (v := .int .i64 j) rfl (by kernel_rfl) (by kernel_rfl) (by kernel_rfl) (fun _ _ _ h => h) (Or.inl ⟨by rfl, ?_⟩) (by assumption) ?_
      · (intro W hSw; have y1 := (hSw.cell (p := ⟨gi, j, none⟩) hgi3).trans kj; have y2 := hxl.out; have y3 := hxl2.out; have y4 := hxl3.out; go_simp; try (with_reducible rfl))
      try simp only [Act.put, List.setIfInBounds_toArray, List.set_cons_zero, List.set_cons_succ]
      refine wpAnyH_take (oi := ⟨_, _, _, _, _, _⟩) (i := 8) (v := .pointer (some ⟨gi, j, none⟩)) rfl (by kernel_rfl) (by kernel_rfl) (by kernel_rfl) (fun _ _ _ h => h) (Or.inl ⟨by rfl, ?_⟩) (by assumption) ?_
      · (intro W hSw; have y1 := (hSw.cell (p := ⟨gi, j, none⟩) hgi3).trans kj; have y2 := hxl.out; have y3 := hxl2.out; have y4 := hxl3.out; go_simp; try (with_reducible rfl))
      try simp only [Act.put, List.setIfInBounds_toArray, List.set_cons_zero, List.set_cons_succ]
      refine wpAnyH_take (oi := ⟨_, _, _, _, _, _⟩) (i := 9) (v := .int .i64 (x : Nat)) rfl (by kernel_rfl) (by kernel_rfl) (by kernel_rfl) (fun _ _ _ h => h) (Or.inl ⟨by rfl, ?_⟩) (by assumption) ?_
      · (intro W hSw; have y1 := (hSw.cell (p := ⟨gi, j, none⟩) hgi3).trans kj; have y2 := hxl.out; have y3 := hxl2.out; have y4 := hxl3.out; go_simp; try (with_reducible rfl))
      try simp only [Act.put, List.setIfInBounds_toArray, List.set_cons_zero, List.set_cons_succ]
      refine wpAnyH_take (oi := ⟨_, _, _, _, _, _⟩) (i := 10) (v := .int .i64 op) rfl (by kernel_rfl) (by kernel_rfl) (by kernel_rfl) (fun _ _ _ h => h) (Or.inl ⟨by rfl, ?_⟩) (by assumption) ?_
      · (intro W hSw; have y1 := (hSw.cell (p := ⟨gi, j, none⟩) hgi3).trans kj; have y2 := hxl.out; have y3 := hxl2.out; have y4 := hxl3.out; go_simp; try (with_reducible rfl))
      try simp only [Act.put, List.setIfInBounds_toArray, List.set_cons_zero, List.set_cons_succ]
      refine wpAnyH_ready (rs := [11]) (by kernel_rfl) (by simp) ?_
      refine AllReadyH.cons (o := ⟨_, _, _, _, _, _⟩) rfl (fun K hK => ?_) ?_
      · go_simp
        go_at_call 37
        (with_reducible refine (HLN _).out.mono ?_)
        rintro e WL1 ⟨rfl, hbl⟩
        replace hS := hS.trans (hbl.mono hS.size)
        clear hbl
        refine hK.out _ _ hS (fun _ => ?_)
        clear hK K
        try simp only [Act.put, List.setIfInBounds_toArray, List.set_cons_zero, List.set_cons_succ]
        refine wpAnyH_take (oi := ⟨_, _, _, _, _, _⟩) (i := 12) (v := .bool false) rfl (by kernel_rfl) (by kernel_rfl) (by kernel_rfl) (fun _ _ _ h => h) (Or.inl ⟨by rfl, ?_⟩) (by assumption) ?_
        · (intro W hSw; have y1 := (hSw.cell (p := ⟨gi, j, none⟩) hgi3).trans kj; have y2 := hxl.out; have y3 := hxl2.out; have y4 := hxl3.out; go_simp; try (with_reducible rfl))
        try simp only [Act.put, List.setIfInBounds_toArray, List.set_cons_zero, List.set_cons_succ]
        refine wpAnyH_take (oi := ⟨_, _, _, _, _, _⟩) (i := 13) (v := .bool false) rfl (by kernel_rfl) (by kernel_rfl) (by kernel_rfl) (fun _ _ _ h => h) (Or.inl ⟨by rfl, ?_⟩) (by assumption) ?_
        · (intro W hSw; have y1 := (hSw.cell (p := ⟨gi, j, none⟩) hgi3).trans kj; have y2 := hxl.out; have y3 := hxl2.out; have y4 := hxl3.out; go_simp; try (with_reducible rfl))
        try simp only [Act.put, List.setIfInBounds_toArray, List.set_cons_zero, List.set_cons_succ]
        refine wpAnyH_done (by kernel_rfl) ?_ _
        have HB9 := hid hS
        clear hS
        go_wp2_with fail
        go_roundw
        case rel => exact ⟨j + 1, by omega, by first | rfl | go_num, HB9⟩
        case measure => (simp [intOf] <;> omega)
      exact AllReadyH.nil
    obtain rfl : j = 1 := by omega
    have hTC : ∀ j a, l[j]? = some a → wr.cell? ⟨g2, j, none⟩ = some (.int .i64 a.1) := fun j a h => (HBJ.out.cell (p := ⟨g2, j, none⟩) hg2).trans (HTC.out j a h)
    have hXR := hid (HXR.out.call HBJ.out)
    have hR3 := hid (HR3.out.call HBJ.out)
    have hB3 := hid (HB3.out.trans (HBJ.out.mono HB3.out.size))
    have hk3 := (HBJ.out.cell (p := ⟨g3, 0, none⟩) hg3).trans k3
    have hg3' : g3 < wr.heap.size := Nat.lt_of_lt_of_le hg3 HBJ.out.size
    have hg2' : g2 < wr.heap.size := Nat.lt_of_lt_of_le hg2 HBJ.out.size
    have HTC2 := hid hTC
    clear HTC HXR HR3 HB3 k3 hg3 hg2 hTC HBJ HPW hgi3
    have HTC := HTC2
    have HXR := hXR
    have HR3 := hR3
    have HB3 := hB3
    have k3 := hk3
    have hg3 := hg3'
    have hg2 := hg2'
    clear HTC2 hXR hR3 hB3 hk3 hg3' hg2'
    go_wp2
    go_loopw [13] (fun vi ws => ∃ i : Nat, i ≤ n ∧ vi = .int .i64 i ∧ Hid (Below wr.heap.size wr ws)) (fun vi _ => n - (intOf vi).toNat)
    case atStart => exact ⟨0, Nat.zero_le _, rfl, Below.refl _ _⟩
    case round =>
      obtain ⟨i, hin, rfl, HB⟩ := hrel
      by_cases hlt : i < n
      · obtain ⟨a, hja⟩ : ∃ a, l[i]? = some a := ⟨l[i]'(by rw [← HN.out]; exact hlt), by simp [← HN.out, hlt]⟩
        obtain ⟨h0, _, _, _⟩ := HA.out i a hja
        have ht0 := HTC.out i a hja
        have e0 := (HB.out.cell (p := ⟨ga, i * 4, none⟩) (Nat.lt_of_lt_of_le hga HB3.out.size)).trans ((HB3.out.cell (p := ⟨ga, i * 4, none⟩) hga).trans h0)
        have e1 := (HB.out.cell (p := ⟨g2, i, none⟩) hg2).trans ht0
        generalize a.1 = t at *
        have ett : (t != t) = false := by simp
        clear h0 ht0 hja
        go_wp2
        go_region
        go_wp2
        go_roundw
        case rel => exact ⟨i + 1, by omega, by go_num, HB.out.drew⟩
        case measure => simp [intOf]; omega
      · obtain rfl : i = n := by omega
        have hXs := HXR.out.call HB.out
        have hRs := HR3.out.call HB.out
        have hBs := HB3.out.trans (HB.out.mono HB3.out.size)
        have HDW := HDD wr hBs
        have s0 := hXs.at (k := 0) (v := .int .i64 ro) rfl
        have s1 := hXs.at (k := 1) (v := .string (str nm)) rfl
        have s2 := hXs.at (k := 2) (v := .int .i64 25) rfl
        have s3 := hXs.at (k := 3) (v := .string (str tk)) rfl
        have s4 := hXs.at (k := 4) (v := .string (str lv)) rfl
        have s5 := hXs.at (k := 5) (v := .bool fx) rfl
        have k3' := (HB.out.cell (p := ⟨g3, 0, none⟩) hg3).trans k3
        have HRs := hid hRs
        have HBs := hid hBs
        have hg3s : g3 < wr.heap.size := Nat.lt_of_lt_of_le hg3 HB.out.size
        clear hXs hRs hBs
        go_wp2_with (go_at_call 80; refine HDW.out.mono ?_; rintro e w9 ⟨rfl, hb9⟩; have HR9 := hid (HRs.out.call hb9); have HB9 := hid (HBs.out.trans (hb9.mono HBs.out.size)); have k9 : ∀ o, (w9.alloc o).cell? ⟨g3, 0, none⟩ = some (.int .i64 126) := fun o => by { rw [((Below.refl _ w9).alloc (Nat.le_refl _) o).cell (p := ⟨g3, 0, none⟩) (Nat.lt_of_lt_of_le hg3s hb9.size), hb9.cell (p := ⟨g3, 0, none⟩) hg3s]; exact k3' }; have r0 := fun o => (HR9.out.alloc o).at (k := 0) (v := .int .i64 0) rfl; have r1 := fun o => (HR9.out.alloc o).at (k := 1) (v := .int .u64 0) rfl; have r2 := fun o => (HR9.out.alloc o).at (k := 2) (v := .int .u64 0) rfl; have r3 := fun o => (HR9.out.alloc o).at (k := 3) (v := .bool false) rfl; have f0 := fun o => (HR9.out.alloc o).free 0; have f1 := fun o => (HR9.out.alloc o).free 1; have f2 := fun o => (HR9.out.alloc o).free 2; have f3 := fun o => (HR9.out.alloc o).free 3; clear hb9)
        have hBF : Below w.heap.size w _ := ((((HB9.out.alloc HB9.out.size (.cells #[.int .i64 126, .int .u64 (lo : Nat), .int .u64 (hi : Nat), .bool false] 24)).setCell (p := ⟨w.heap.size, 0, none⟩) (Nat.le_refl _) (.int .i64 126)).setCell (p := ⟨w.heap.size, 1, none⟩) (Nat.le_refl _) (.int .u64 (lo : Nat))).setCell (p := ⟨w.heap.size, 2, none⟩) (Nat.le_refl _) (.int .u64 (hi : Nat))).setCell (p := ⟨w.heap.size, 3, none⟩) (Nat.le_refl _) (.bool false)
        refine bodyPost_ret (v := .tuple #[.agg #[.int .i64 126, .int .u64 (lo : Nat), .int .u64 (hi : Nat), .bool false], .int .i64 0]) ?_ rfl ⟨rfl, hBF⟩
        simp [results, Tryz.results38, go_sem, r0, r1, r2, r3]
set_option maxHeartbeats 4000000 in
set_option maxRecDepth 100000 in
theorem RDo_p124 (op : Int) (h64 : 64768 ≤ op) (ro : Int) (nm : List UInt8) (tk lv : List UInt8) (fx : Bool) (hr : ofL op = (ro, nm, 25, tk, lv, fx)) (hro : 0 ≤ ro) (htk : tk.length ≤ 100) (hlv : lv.length ≤ 100) (hlv2 : tyL lv = [124])
    (l : List Av) (hT : tyL tk = l.map (·.1)) (hl1 : 1 ≤ l.length) (hl : l.length ≤ 10) (va : Value) (w : World) (ha : AR w va l) (gi ci : Nat) (hgi : gi < w.heap.size) (P : Nat → Nat) (hP : ∀ j, j < 1 → w.cell? ⟨gi, j, none⟩ = some (.int .i64 (P j : Nat)) ∧ (P j : Int) < refLanes (ofL op)) (lo hi : Nat)
    (HD : ∀ W, Below w.heap.size w W → Calls Tryz.prog 80 #[rwV (ro, nm, 25, tk, lv, fx), .slice (some ⟨gi, 0, none⟩) 1 ci, va] W fun e w' => e = .returned (vv 0 lo hi false) ∧ Below W.heap.size W w') :
    Calls Tryz.prog 38 #[.int .i64 op, .slice (some ⟨gi, 0, none⟩) 1 ci, va] w fun e w' => e = .returned (.tuple #[vv 124 lo hi false, .int .i64 0]) ∧ Below w.heap.size w w' := by
  have HLN := fun W => hid (RLanes_says op W)
  generalize refLanes (ofL op) = ll at *
  have HPP := hid hP
  clear hP
  have HO := fun W => hid (Of_says op W)
  rw [hr] at HO
  have HT1 := fun W => hid (reftypes_says tk htk W)
  have HT2 := fun W => hid (reftypes_says lv hlv W)
  rw [hlv2] at HT2
  have HDD := fun W h => hid (HD W h)
  have HT := hid hT
  have hlen : (tyL tk).length = l.length := by rw [hT, List.length_map]
  obtain ⟨ga, ca, rfl, hga, hca, hata⟩ := ha
  have HA := hid hata
  obtain ⟨n, hn⟩ : ∃ n, n = l.length := ⟨_, rfl⟩
  rw [← hn] at hca hl1 hl hlen ⊢
  rw [← hn] at HDD
  have HN := hid hn
  have hop : ¬ (op < 64768) := by omega
  have hro2 : ¬ (ro < 0) := by omega
  unfold vv at HDD ⊢
  unfold rwV at HO HDD
  generalize tyL tk = ta at *
  clear hr hlv2 HD hT hata hn h64 hro
  go_enter Tryz.func38, Tryz.ntmps38
  go_upto_region 9 with (first
    | (go_at_call 23; refine (HO _).out.mono ?_; rintro e w1 ⟨rfl, hb1⟩; have HX1 := hid (below_new hb1); clear hb1)
    | (go_at_call 25; (with_reducible refine (HT1 _).out.mono ?_); rintro e w2 ⟨v2, rfl, ho2, hb2⟩; have HO2 := hid ho2; have HX2 := hid (below_new hb2); have m0 := HX2.out.1.at (k := 0) (v := .int .i64 ro) rfl; have m1 := HX2.out.1.at (k := 1) (v := .string (str nm)) rfl; have m2 := HX2.out.1.at (k := 2) (v := .int .i64 25) rfl; have m3 := HX2.out.1.at (k := 3) (v := .string (str tk)) rfl; have m4 := HX2.out.1.at (k := 4) (v := .string (str lv)) rfl; have m5 := HX2.out.1.at (k := 5) (v := .bool fx) rfl; clear hb2 ho2)
    | (go_at_call 25; (with_reducible refine (HT2 _).out.mono ?_); rintro e w3 ⟨v3, rfl, ho3, hb3⟩; have HO3 := hid ho3; have HO2' := hid (own_below HO2.out hb3 (Nat.le_refl _)); have HX3 := hid (And.intro (HX2.out.1.call hb3) (HX2.out.2.trans (hb3.mono HX2.out.2.size))); clear m0 m1 m2 m3 m4 m5; have p0 := HX3.out.1.at (k := 0) (v := .int .i64 ro) rfl; have p1 := HX3.out.1.at (k := 1) (v := .string (str nm)) rfl; have p2 := HX3.out.1.at (k := 2) (v := .int .i64 25) rfl; have p3 := HX3.out.1.at (k := 3) (v := .string (str tk)) rfl; have p4 := HX3.out.1.at (k := 4) (v := .string (str lv)) rfl; have p5 := HX3.out.1.at (k := 5) (v := .bool fx) rfl; clear hb3 ho3))
  obtain ⟨g2, c2, rfl⟩ := owned_at HO2'.out (by omega)
  obtain ⟨g3, c3, rfl⟩ : ∃ g cap, v3 = .slice (some ⟨g, 0, none⟩) 1 cap := owned_at HO3.out (Nat.le_refl _)
  have k3 : w3.cell? ⟨g3, 0, none⟩ = some (.int .i64 124) := HO3.out.cellAt 0 (by decide)
  have hg3 : g3 < w3.heap.size := (HO3.out.lt g3 rfl).2
  have hg2 : g2 < w3.heap.size := (HO2'.out.lt g2 rfl).2
  have HTC : Hid (∀ j a, l[j]? = some a → w3.cell? ⟨g2, j, none⟩ = some (.int .i64 a.1)) := fun j a hj => by
    have hjl : j < l.length := (List.getElem?_eq_some_iff.1 hj).1
    rw [HO2'.out.cellAt j (by rw [hlen, HN.out]; omega), HT.out]
    simp [ic, hj]
  have hB3 : Below w.heap.size w w3 := HX1.out.2.trans (HX3.out.2.mono HX1.out.2.size)
  have hR3 : CA w.heap.size #[.int .i64 0, .int .u64 0, .int .u64 0, .bool false] 24 w3 := HX1.out.1.call HX3.out.2
  have HXR := hid HX3.out.1
  have HB3 := hid hB3
  have HR3 := hid hR3
  have hwg : w.heap.size < w1.heap.size := HX1.out.1.lt
  generalize w1.heap.size = g8 at *
  rw [hlen]
  have hz : ((0 : Nat) : Int) = 0 := rfl
  clear HX1 HX2 HX3 HO2 HO2' HO3 HT hlen hB3 hR3
  go_wp2
  have hgi3 : gi < w3.heap.size := Nat.lt_of_lt_of_le hgi HB3.out.size
  have HPW := hid (show ∀ j, j < 1 → w3.cell? ⟨gi, j, none⟩ = some (.int .i64 (P j : Nat)) ∧ (P j : Int) < ll from fun j hj => ⟨(HB3.out.cell (p := ⟨gi, j, none⟩) hgi).trans (HPP.out j hj).1, (HPP.out j hj).2⟩)
  clear HPP
  go_loopw [12] (fun vi wr => ∃ j : Nat, j ≤ 1 ∧ vi = .int .i64 j ∧ Hid (Below w3.heap.size w3 wr)) (fun vi _ => 1 - (intOf vi).toNat)
  case atStart => exact ⟨0, Nat.zero_le _, rfl, Below.refl _ _⟩
  case round =>
    obtain ⟨j, hj, rfl, HBJ⟩ := hrel
    by_cases hjn : j < 1
    · have kj := (HPW.out j hjn).1
      have hxl0 := (HPW.out j hjn).2
      clear HPW HTC HXR HR3 k3 HDD HN HA
      generalize P j = x at *
      have hxl := hid (show ¬ (ll ≤ (x : Int)) by omega)
      have hxl2 := hid (show decide ((x : Int) ≥ ll) = false from decide_eq_false (by omega))
      have hxl3 := hid (show decide (ll ≤ (x : Int)) = false from decide_eq_false (by omega))
      go_upto_region 14 with fail
      have hS : Below w3.heap.size w3 wr.drew := HBJ.out.drew
      clear HBJ
      refine wp_region_held_drew (S := fun W => Below w3.heap.size w3 W) (by kernel_rfl) hS (fun _ => ?_)
      generalize wr.drew = W at *
      refine wpAnyH_take (oi := ⟨_, _, _, _, _, _⟩) (i := 0) (v := .slice (some ⟨gi, 0, none⟩) 1 ci) rfl (by kernel_rfl) (by kernel_rfl) (by kernel_rfl) (fun _ _ _ h => h) (Or.inl ⟨by rfl, ?_⟩) (by assumption) ?_
      · (intro W hSw; have y1 := (hSw.cell (p := ⟨gi, j, none⟩) hgi3).trans kj; have y2 := hxl.out; have y3 := hxl2.out; have y4 := hxl3.out; go_simp; try (with_reducible rfl))
      try simp only [Act.put, List.setIfInBounds_toArray, List.set_cons_zero, List.set_cons_succ]
      refine wpAnyH_take (oi := ⟨_, _, _, _, _, _⟩) (i := 1) (v := .int .i64 j) rfl (by kernel_rfl) (by kernel_rfl) (by kernel_rfl) (fun _ _ _ h => h) (Or.inl ⟨by rfl, ?_⟩) (by assumption) ?_
      · (intro W hSw; have y1 := (hSw.cell (p := ⟨gi, j, none⟩) hgi3).trans kj; have y2 := hxl.out; have y3 := hxl2.out; have y4 := hxl3.out; go_simp; try (with_reducible rfl))
      try simp only [Act.put, List.setIfInBounds_toArray, List.set_cons_zero, List.set_cons_succ]
      refine wpAnyH_take (oi := ⟨_, _, _, _, _, _⟩) (i := 2) (v := .pointer (some ⟨gi, j, none⟩)) rfl (by kernel_rfl) (by kernel_rfl) (by kernel_rfl) (fun _ _ _ h => h) (Or.inl ⟨by rfl, ?_⟩) (by assumption) ?_
      · (intro W hSw; have y1 := (hSw.cell (p := ⟨gi, j, none⟩) hgi3).trans kj; have y2 := hxl.out; have y3 := hxl2.out; have y4 := hxl3.out; go_simp; try (with_reducible rfl))
      try simp only [Act.put, List.setIfInBounds_toArray, List.set_cons_zero, List.set_cons_succ]
      refine wpAnyH_take (oi := ⟨_, _, _, _, _, _⟩) (i := 3) (v := .int .i64 (x : Nat)) rfl (by kernel_rfl) (by kernel_rfl) (by kernel_rfl) (fun _ _ _ h => h) (Or.inl ⟨by rfl, ?_⟩) (by assumption) ?_
      · (intro W hSw; have y1 := (hSw.cell (p := ⟨gi, j, none⟩) hgi3).trans kj; have y2 := hxl.out; have y3 := hxl2.out; have y4 := hxl3.out; go_simp; try (with_reducible rfl))
      try simp only [Act.put, List.setIfInBounds_toArray, List.set_cons_zero, List.set_cons_succ]
      refine wpAnyH_take (oi := ⟨_, _, _, _, _, _⟩) (i := 4) (v := .bool false) rfl (by kernel_rfl) (by kernel_rfl) (by kernel_rfl) (fun _ _ _ h => h) (Or.inl ⟨by rfl, ?_⟩) (by assumption) ?_
      · (intro W hSw; have y1 := (hSw.cell (p := ⟨gi, j, none⟩) hgi3).trans kj; have y2 := hxl.out; have y3 := hxl2.out; have y4 := hxl3.out; go_simp; try (with_reducible rfl))
      try simp only [Act.put, List.setIfInBounds_toArray, List.set_cons_zero, List.set_cons_succ]
      refine wpAnyH_take (oi := ⟨_, _, _, _, _, _⟩) (i := 5) (v := .bool false) rfl (by kernel_rfl) (by kernel_rfl) (by kernel_rfl) (fun _ _ _ h => h) (Or.inl ⟨by rfl, ?_⟩) (by assumption) ?_
      · (intro W hSw; have y1 := (hSw.cell (p := ⟨gi, j, none⟩) hgi3).trans kj; have y2 := hxl.out; have y3 := hxl2.out; have y4 := hxl3.out; go_simp; try (with_reducible rfl))
      try simp only [Act.put, List.setIfInBounds_toArray, List.set_cons_zero, List.set_cons_succ]
      refine wpAnyH_take (oi := ⟨_, _, _, _, _, _⟩) (i := 6) (v := .slice (some ⟨gi, 0, none⟩) 1 ci) rfl (by kernel_rfl) (by kernel_rfl) (by kernel_rfl) (fun _ _ _ h => h) (Or.inl ⟨by rfl, ?_⟩) (by assumption) ?_
      · (intro W hSw; have y1 := (hSw.cell (p := ⟨gi, j, none⟩) hgi3).trans kj; have y2 := hxl.out; have y3 := hxl2.out; have y4 := hxl3.out; go_simp; try (with_reducible rfl))
      try simp only [Act.put, List.setIfInBounds_toArray, List.set_cons_zero, List.set_cons_succ]
      refine wpAnyH_take (oi := ⟨_, _, _, _, _, _⟩) (i := 7) (v := .int .i64 j) rfl (by kernel_rfl) (by kernel_rfl) (by kernel_rfl) (fun _ _ _ h => h) (Or.inl ⟨by rfl, ?_⟩) (by assumption) ?_
      · (intro W hSw; have y1 := (hSw.cell (p := ⟨gi, j, none⟩) hgi3).trans kj; have y2 := hxl.out; have y3 := hxl2.out; have y4 := hxl3.out; go_simp; try (with_reducible rfl))
      try simp only [Act.put, List.setIfInBounds_toArray, List.set_cons_zero, List.set_cons_succ]
      refine wpAnyH_take (oi := ⟨_, _, _, _, _, _⟩) (i := 8) (v := .pointer (some ⟨gi, j, none⟩)) rfl (by kernel_rfl) (by kernel_rfl) (by kernel_rfl) (fun _ _ _ h => h) (Or.inl ⟨by rfl, ?_⟩) (by assumption) ?_
      · (intro W hSw; have y1 := (hSw.cell (p := ⟨gi, j, none⟩) hgi3).trans kj; have y2 := hxl.out; have y3 := hxl2.out; have y4 := hxl3.out; go_simp; try (with_reducible rfl))
      try simp only [Act.put, List.setIfInBounds_toArray, List.set_cons_zero, List.set_cons_succ]
      refine wpAnyH_take (oi := ⟨_, _, _, _, _, _⟩) (i := 9) (v := .int .i64 (x : Nat)) rfl (by kernel_rfl) (by kernel_rfl) (by kernel_rfl) (fun _ _ _ h => h) (Or.inl ⟨by rfl, ?_⟩) (by assumption) ?_
      · (intro W hSw; have y1 := (hSw.cell (p := ⟨gi, j, none⟩) hgi3).trans kj; have y2 := hxl.out; have y3 := hxl2.out; have y4 := hxl3.out; go_simp; try (with_reducible rfl))
      try simp only [Act.put, List.setIfInBounds_toArray, List.set_cons_zero, List.set_cons_succ]
      refine wpAnyH_take (oi := ⟨_, _, _, _, _, _⟩) (i := 10) (v := .int .i64 op) rfl (by kernel_rfl) (by kernel_rfl) (by kernel_rfl) (fun _ _ _ h => h) (Or.inl ⟨by rfl, ?_⟩) (by assumption) ?_
      · (intro W hSw; have y1 := (hSw.cell (p := ⟨gi, j, none⟩) hgi3).trans kj; have y2 := hxl.out; have y3 := hxl2.out; have y4 := hxl3.out; go_simp; try (with_reducible rfl))
      try simp only [Act.put, List.setIfInBounds_toArray, List.set_cons_zero, List.set_cons_succ]
      refine wpAnyH_ready (rs := [11]) (by kernel_rfl) (by simp) ?_
      refine AllReadyH.cons (o := ⟨_, _, _, _, _, _⟩) rfl (fun K hK => ?_) ?_
      · go_simp
        go_at_call 37
        (with_reducible refine (HLN _).out.mono ?_)
        rintro e WL1 ⟨rfl, hbl⟩
        replace hS := hS.trans (hbl.mono hS.size)
        clear hbl
        refine hK.out _ _ hS (fun _ => ?_)
        clear hK K
        try simp only [Act.put, List.setIfInBounds_toArray, List.set_cons_zero, List.set_cons_succ]
        refine wpAnyH_take (oi := ⟨_, _, _, _, _, _⟩) (i := 12) (v := .bool false) rfl (by kernel_rfl) (by kernel_rfl) (by kernel_rfl) (fun _ _ _ h => h) (Or.inl ⟨by rfl, ?_⟩) (by assumption) ?_
        · (intro W hSw; have y1 := (hSw.cell (p := ⟨gi, j, none⟩) hgi3).trans kj; have y2 := hxl.out; have y3 := hxl2.out; have y4 := hxl3.out; go_simp; try (with_reducible rfl))
        try simp only [Act.put, List.setIfInBounds_toArray, List.set_cons_zero, List.set_cons_succ]
        refine wpAnyH_take (oi := ⟨_, _, _, _, _, _⟩) (i := 13) (v := .bool false) rfl (by kernel_rfl) (by kernel_rfl) (by kernel_rfl) (fun _ _ _ h => h) (Or.inl ⟨by rfl, ?_⟩) (by assumption) ?_
        · (intro W hSw; have y1 := (hSw.cell (p := ⟨gi, j, none⟩) hgi3).trans kj; have y2 := hxl.out; have y3 := hxl2.out; have y4 := hxl3.out; go_simp; try (with_reducible rfl))
        try simp only [Act.put, List.setIfInBounds_toArray, List.set_cons_zero, List.set_cons_succ]
        refine wpAnyH_done (by kernel_rfl) ?_ _
        have HB9 := hid hS
        clear hS
        go_wp2_with fail
        go_roundw
        case rel => exact ⟨j + 1, by omega, by first | rfl | go_num, HB9⟩
        case measure => (simp [intOf] <;> omega)
      exact AllReadyH.nil
    obtain rfl : j = 1 := by omega
    have hTC : ∀ j a, l[j]? = some a → wr.cell? ⟨g2, j, none⟩ = some (.int .i64 a.1) := fun j a h => (HBJ.out.cell (p := ⟨g2, j, none⟩) hg2).trans (HTC.out j a h)
    have hXR := hid (HXR.out.call HBJ.out)
    have hR3 := hid (HR3.out.call HBJ.out)
    have hB3 := hid (HB3.out.trans (HBJ.out.mono HB3.out.size))
    have hk3 := (HBJ.out.cell (p := ⟨g3, 0, none⟩) hg3).trans k3
    have hg3' : g3 < wr.heap.size := Nat.lt_of_lt_of_le hg3 HBJ.out.size
    have hg2' : g2 < wr.heap.size := Nat.lt_of_lt_of_le hg2 HBJ.out.size
    have HTC2 := hid hTC
    clear HTC HXR HR3 HB3 k3 hg3 hg2 hTC HBJ HPW hgi3
    have HTC := HTC2
    have HXR := hXR
    have HR3 := hR3
    have HB3 := hB3
    have k3 := hk3
    have hg3 := hg3'
    have hg2 := hg2'
    clear HTC2 hXR hR3 hB3 hk3 hg3' hg2'
    go_wp2
    go_loopw [13] (fun vi ws => ∃ i : Nat, i ≤ n ∧ vi = .int .i64 i ∧ Hid (Below wr.heap.size wr ws)) (fun vi _ => n - (intOf vi).toNat)
    case atStart => exact ⟨0, Nat.zero_le _, rfl, Below.refl _ _⟩
    case round =>
      obtain ⟨i, hin, rfl, HB⟩ := hrel
      by_cases hlt : i < n
      · obtain ⟨a, hja⟩ : ∃ a, l[i]? = some a := ⟨l[i]'(by rw [← HN.out]; exact hlt), by simp [← HN.out, hlt]⟩
        obtain ⟨h0, _, _, _⟩ := HA.out i a hja
        have ht0 := HTC.out i a hja
        have e0 := (HB.out.cell (p := ⟨ga, i * 4, none⟩) (Nat.lt_of_lt_of_le hga HB3.out.size)).trans ((HB3.out.cell (p := ⟨ga, i * 4, none⟩) hga).trans h0)
        have e1 := (HB.out.cell (p := ⟨g2, i, none⟩) hg2).trans ht0
        generalize a.1 = t at *
        have ett : (t != t) = false := by simp
        clear h0 ht0 hja
        go_wp2
        go_region
        go_wp2
        go_roundw
        case rel => exact ⟨i + 1, by omega, by go_num, HB.out.drew⟩
        case measure => simp [intOf]; omega
      · obtain rfl : i = n := by omega
        have hXs := HXR.out.call HB.out
        have hRs := HR3.out.call HB.out
        have hBs := HB3.out.trans (HB.out.mono HB3.out.size)
        have HDW := HDD wr hBs
        have s0 := hXs.at (k := 0) (v := .int .i64 ro) rfl
        have s1 := hXs.at (k := 1) (v := .string (str nm)) rfl
        have s2 := hXs.at (k := 2) (v := .int .i64 25) rfl
        have s3 := hXs.at (k := 3) (v := .string (str tk)) rfl
        have s4 := hXs.at (k := 4) (v := .string (str lv)) rfl
        have s5 := hXs.at (k := 5) (v := .bool fx) rfl
        have k3' := (HB.out.cell (p := ⟨g3, 0, none⟩) hg3).trans k3
        have HRs := hid hRs
        have HBs := hid hBs
        have hg3s : g3 < wr.heap.size := Nat.lt_of_lt_of_le hg3 HB.out.size
        clear hXs hRs hBs
        go_wp2_with (go_at_call 80; refine HDW.out.mono ?_; rintro e w9 ⟨rfl, hb9⟩; have HR9 := hid (HRs.out.call hb9); have HB9 := hid (HBs.out.trans (hb9.mono HBs.out.size)); have k9 : ∀ o, (w9.alloc o).cell? ⟨g3, 0, none⟩ = some (.int .i64 124) := fun o => by { rw [((Below.refl _ w9).alloc (Nat.le_refl _) o).cell (p := ⟨g3, 0, none⟩) (Nat.lt_of_lt_of_le hg3s hb9.size), hb9.cell (p := ⟨g3, 0, none⟩) hg3s]; exact k3' }; have r0 := fun o => (HR9.out.alloc o).at (k := 0) (v := .int .i64 0) rfl; have r1 := fun o => (HR9.out.alloc o).at (k := 1) (v := .int .u64 0) rfl; have r2 := fun o => (HR9.out.alloc o).at (k := 2) (v := .int .u64 0) rfl; have r3 := fun o => (HR9.out.alloc o).at (k := 3) (v := .bool false) rfl; have f0 := fun o => (HR9.out.alloc o).free 0; have f1 := fun o => (HR9.out.alloc o).free 1; have f2 := fun o => (HR9.out.alloc o).free 2; have f3 := fun o => (HR9.out.alloc o).free 3; clear hb9)
        have hBF : Below w.heap.size w _ := ((((HB9.out.alloc HB9.out.size (.cells #[.int .i64 124, .int .u64 (lo : Nat), .int .u64 (hi : Nat), .bool false] 24)).setCell (p := ⟨w.heap.size, 0, none⟩) (Nat.le_refl _) (.int .i64 124)).setCell (p := ⟨w.heap.size, 1, none⟩) (Nat.le_refl _) (.int .u64 (lo : Nat))).setCell (p := ⟨w.heap.size, 2, none⟩) (Nat.le_refl _) (.int .u64 (hi : Nat))).setCell (p := ⟨w.heap.size, 3, none⟩) (Nat.le_refl _) (.bool false)
        refine bodyPost_ret (v := .tuple #[.agg #[.int .i64 124, .int .u64 (lo : Nat), .int .u64 (hi : Nat), .bool false], .int .i64 0]) ?_ rfl ⟨rfl, hBF⟩
        simp [results, Tryz.results38, go_sem, r0, r1, r2, r3]
end Go.Proofs.YtlhakbkdlgejpaaGreatDoor
