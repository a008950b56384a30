/-
  The walk of the law on all that is said of a number: it answers true. Condition: the tables hold what their text lays.
-/
import Derived.Test.YtnechalhgdmgiaaDoorLawSignsW
import Derived.Test.YtnechalhgdmgiaaDoorRLanes
import Derived.Deep.RegionHeld3
set_option linter.unusedSimpArgs false
set_option linter.unusedVariables false
namespace Go.Proofs.YtnechalhgdmgiaaDoor
open Go.RowKit

set_option maxHeartbeats 4000000 in
set_option maxRecDepth 100000 in
theorem law_says (op : Int) (w : World) (hg : Glob w) :
    Calls Tryd.prog 3 #[.int .i64 op] w fun e w' => e = .returned (.bool true) ∧ Below w.heap.size w w' := by
  have HG := hid hg
  clear hg
  obtain ⟨ro, nm, im, tk, lv, fx, hr⟩ : ∃ ro nm im tk lv fx, ofL op = (ro, nm, im, tk, lv, fx) := ⟨_, _, _, _, _, _, rfl⟩
  obtain ⟨hkb, hnm, him, hfx, hla, hlb, htk, hlv, _⟩ := agree_parts op hr
  obtain ⟨ha, hl, _⟩ := agreeP_parts op rfl
  have HOf := fun W => hid (Of_says op W)
  rw [hr] at HOf
  have HK := fun W => hid (Known_says op W)
  rw [hkb] at HK
  have HN := fun W => hid (Name_says op W)
  rw [hnm] at HN
  have HI := fun W => hid (Imm_says op W)
  rw [him] at HI
  have H16 := fun W (hW : Glob W) => hid (Align_says op W hW)
  have H17 := fun W => hid (RAlign_says op W)
  have H18 := fun W (hW : Glob W) => hid (Lanes_says op W hW)
  have H19 := fun W => hid (RLanes_says op W)
  rw [← ha] at H17
  rw [← hl] at H19
  obtain ⟨A, hA⟩ : ∃ A, A = alignL op := ⟨_, rfl⟩
  obtain ⟨L, hL⟩ : ∃ L, L = lanesL op := ⟨_, rfl⟩
  rw [← hA] at H16 H17
  rw [← hL] at H18 H19
  obtain ⟨s2, hs2⟩ : ∃ s, s = str nm := ⟨_, rfl⟩
  rw [← hs2] at HN
  have HSS := hid hs2
  clear ha hl hA hL hkb hnm him hs2
  have HSg := fun W (hW : Glob W) => hid (Sign_any op W hW)
  rw [hfx] at HSg
  have HTk := fun W => hid (reftypes_says tk htk W)
  have HTl := fun W => hid (reftypes_says lv hlv W)
  rw [← hla] at HTk
  rw [← hlb] at HTl
  obtain ⟨la, hla2⟩ : ∃ la, la = laL op := ⟨_, rfl⟩
  obtain ⟨lb, hlb2⟩ : ∃ lb, lb = lbL op := ⟨_, rfl⟩
  have hll1 : la.length ≤ 100 := by rw [hla2, hla]; exact Nat.le_trans (ty_len tk) htk
  have hll2 : lb.length ≤ 100 := by rw [hlb2, hlb]; exact Nat.le_trans (ty_len lv) hlv
  rw [← hla2] at HSg HTk
  rw [← hlb2] at HSg HTl
  have HL1 := hid hll1
  have HL2 := hid hll2
  clear hr hfx hla hlb htk hlv hla2 hlb2 hll1 hll2
  rename_i q1 q2
  clear q1 q2
  have HSA := fun va vb a W h1 h2 h3 => hid (same_true va vb a W h1 h2 h3)
  go_enter Tryd.func3, Tryd.ntmps3
  go_wp2_with fail
  refine (awake_says _ HG.out).mono ?_
  rintro e w1 ⟨rfl, hb⟩
  have HB1 := hid hb
  have HG1 := hid (HG.out.next hb)
  clear hb
  go_upto_region 5 with (go_at_call 9; refine (HOf _).out.mono ?_; rintro e w3 ⟨rfl, hb⟩; unfold rwV)
  have HB3 := hid (HB1.out.trans (hb.mono HB1.out.size))
  have HG3 := hid (HG1.out.next hb)
  clear hb
  have HR4 : Hid (RB w3.heap.size (ro, nm, im, tk, lv, fx) (w3.alloc (.cells (rwCells (ro, nm, im, tk, lv, fx)) 24))) := RB.newr _ _
  have HB4 := hid (HB3.out.alloc HB3.out.size (.cells (rwCells (ro, nm, im, tk, lv, fx)) 24))
  have HG4 := hid (HG3.out.next ((Below.refl w3.heap.size w3).alloc (Nat.le_refl _) (.cells (rwCells (ro, nm, im, tk, lv, fx)) 24)))
  have HGE := hid HB3.out.size
  simp only [rwCells] at HR4 HB4 HG4
  generalize w3.alloc (.cells #[.int .i64 ro, .string (str nm), .int .i64 im, .string (str tk), .string (str lv), .bool fx] 24) = w4 at *
  generalize w3.heap.size = gr at *
  go_wp2_with fail
  refine (HSg _ HG4.out).out.mono ?_
  rintro e w5 ⟨v1, v2, B, rfl, ho1, ho2, hB, hsep, hb⟩
  have HA5 := hid (row_of ho1)
  have HD5 := hid (row_of ho2)
  have HB5 := hid (HB4.out.trans (hb.mono HB4.out.size))
  have HR5 := hid (HR4.out.call hb)
  have HG5 := hid (HG.out.next HB5.out)
  clear ho1 ho2 hB hsep hb HSg HOf HR4 HB4 HG4 HB3 HG3 HB1 HG1 HGE
  go_upto_region 6 with fail
  have hS := (Below.refl w5.heap.size w5).drew
  refine wp_region_held_drew (S := Below w5.heap.size w5) (by kernel_rfl) hS (fun _ => ?_)
  generalize w5.drew = W at *
  refine wpAnyH_take (oi := ⟨_, _, _, _, _, _⟩) (i := 0) (v := .int .i64 op) rfl (by kernel_rfl) (by kernel_rfl) (by kernel_rfl) (fun _ _ _ h => h) (Or.inl ⟨by rfl, ?_⟩) (by assumption) ?_
  · (intro W hSw; obtain ⟨x0, x1, x2, x3, x4, x5⟩ := (HR5.out.call hSw).cells; rw [← HSS.out] at x1; go_simp; try (with_reducible rfl))
  try simp only [Act.put, List.setIfInBounds_toArray, List.set_cons_zero, List.set_cons_succ]
  refine wpAnyH_take (oi := ⟨_, _, _, _, _, _⟩) (i := 2) (v := .pointer (some ⟨gr, 0, none⟩)) rfl (by kernel_rfl) (by kernel_rfl) (by kernel_rfl) (fun _ _ _ h => h) (Or.inl ⟨by rfl, ?_⟩) (by assumption) ?_
  · (intro W hSw; obtain ⟨x0, x1, x2, x3, x4, x5⟩ := (HR5.out.call hSw).cells; rw [← HSS.out] at x1; go_simp; try (with_reducible rfl))
  try simp only [Act.put, List.setIfInBounds_toArray, List.set_cons_zero, List.set_cons_succ]
  refine wpAnyH_take (oi := ⟨_, _, _, _, _, _⟩) (i := 3) (v := .int .i64 ro) rfl (by kernel_rfl) (by kernel_rfl) (by kernel_rfl) (fun _ _ _ h => h) (Or.inl ⟨by rfl, ?_⟩) (by assumption) ?_
  · (intro W hSw; obtain ⟨x0, x1, x2, x3, x4, x5⟩ := (HR5.out.call hSw).cells; rw [← HSS.out] at x1; go_simp; try (with_reducible rfl))
  try simp only [Act.put, List.setIfInBounds_toArray, List.set_cons_zero, List.set_cons_succ]
  refine wpAnyH_take (oi := ⟨_, _, _, _, _, _⟩) (i := 4) (v := .bool (decide (0 ≤ ro))) rfl (by kernel_rfl) (by kernel_rfl) (by kernel_rfl) (fun _ _ _ h => h) (Or.inl ⟨by rfl, ?_⟩) (by assumption) ?_
  · (intro W hSw; obtain ⟨x0, x1, x2, x3, x4, x5⟩ := (HR5.out.call hSw).cells; rw [← HSS.out] at x1; go_simp; try (with_reducible rfl))
  try simp only [Act.put, List.setIfInBounds_toArray, List.set_cons_zero, List.set_cons_succ]
  refine wpAnyH_ready (rs := [1]) (by kernel_rfl) (by simp) ?_
  refine AllReadyH.cons (o := ⟨_, _, _, _, _, _⟩) rfl (fun K hK => ?_) ?_
  · go_simp
    go_at_call 11
    (with_reducible refine (HK _).out.mono ?_)
    rintro e W1 ⟨rfl, hb⟩
    replace hS := hS.trans (hb.mono hS.size)
    clear hb
    refine hK.out _ _ hS (fun _ => ?_)
    clear hK K
    try simp only [Act.put, List.setIfInBounds_toArray, List.set_cons_zero, List.set_cons_succ]
    refine wpAnyH_take (oi := ⟨_, _, _, _, _, _⟩) (i := 5) (v := .bool true) rfl (by kernel_rfl) (by kernel_rfl) (by kernel_rfl) (fun _ _ _ h => h) (Or.inl ⟨by rfl, ?_⟩) (by assumption) ?_
    · (intro W hSw; obtain ⟨x0, x1, x2, x3, x4, x5⟩ := (HR5.out.call hSw).cells; rw [← HSS.out] at x1; go_simp; try (with_reducible rfl))
    try simp only [Act.put, List.setIfInBounds_toArray, List.set_cons_zero, List.set_cons_succ]
    refine wpAnyH_take (oi := ⟨_, _, _, _, _, _⟩) (i := 6) (v := .bool true) rfl (by kernel_rfl) (by kernel_rfl) (by kernel_rfl) (fun _ _ _ h => h) (Or.inl ⟨by rfl, ?_⟩) (by assumption) ?_
    · (intro W hSw; obtain ⟨x0, x1, x2, x3, x4, x5⟩ := (HR5.out.call hSw).cells; rw [← HSS.out] at x1; go_simp; try (with_reducible rfl))
    try simp only [Act.put, List.setIfInBounds_toArray, List.set_cons_zero, List.set_cons_succ]
    refine wpAnyH_take (oi := ⟨_, _, _, _, _, _⟩) (i := 7) (v := .int .i64 op) rfl (by kernel_rfl) (by kernel_rfl) (by kernel_rfl) (fun _ _ _ h => h) (Or.inl ⟨by rfl, ?_⟩) (by assumption) ?_
    · (intro W hSw; obtain ⟨x0, x1, x2, x3, x4, x5⟩ := (HR5.out.call hSw).cells; rw [← HSS.out] at x1; go_simp; try (with_reducible rfl))
    try simp only [Act.put, List.setIfInBounds_toArray, List.set_cons_zero, List.set_cons_succ]
    refine wpAnyH_take (oi := ⟨_, _, _, _, _, _⟩) (i := 9) (v := .pointer (some ⟨gr, 1, none⟩)) rfl (by kernel_rfl) (by kernel_rfl) (by kernel_rfl) (fun _ _ _ h => h) (Or.inl ⟨by rfl, ?_⟩) (by assumption) ?_
    · (intro W hSw; obtain ⟨x0, x1, x2, x3, x4, x5⟩ := (HR5.out.call hSw).cells; rw [← HSS.out] at x1; go_simp; try (with_reducible rfl))
    try simp only [Act.put, List.setIfInBounds_toArray, List.set_cons_zero, List.set_cons_succ]
    refine wpAnyH_take (oi := ⟨_, _, _, _, _, _⟩) (i := 10) (v := .string s2) rfl (by kernel_rfl) (by kernel_rfl) (by kernel_rfl) (fun _ _ _ h => h) (Or.inl ⟨by rfl, ?_⟩) (by assumption) ?_
    · (intro W hSw; obtain ⟨x0, x1, x2, x3, x4, x5⟩ := (HR5.out.call hSw).cells; rw [← HSS.out] at x1; go_simp; try (with_reducible rfl))
    try simp only [Act.put, List.setIfInBounds_toArray, List.set_cons_zero, List.set_cons_succ]
    refine wpAnyH_ready (rs := [8]) (by kernel_rfl) (by simp) ?_
    refine AllReadyH.cons (o := ⟨_, _, _, _, _, _⟩) rfl (fun K hK => ?_) ?_
    · go_simp
      go_at_call 12
      (with_reducible refine (HN _).out.mono ?_)
      rintro e W2 ⟨rfl, hb⟩
      replace hS := hS.trans (hb.mono hS.size)
      clear hb
      refine hK.out _ _ hS (fun _ => ?_)
      clear hK K
      try simp only [Act.put, List.setIfInBounds_toArray, List.set_cons_zero, List.set_cons_succ]
      refine wpAnyH_take (oi := ⟨_, _, _, _, _, _⟩) (i := 11) (v := .bool true) rfl (by kernel_rfl) (by kernel_rfl) (by kernel_rfl) (fun _ _ _ h => h) (Or.inl ⟨by rfl, ?_⟩) (by assumption) ?_
      · (intro W hSw; obtain ⟨x0, x1, x2, x3, x4, x5⟩ := (HR5.out.call hSw).cells; rw [← HSS.out] at x1; go_simp; try (with_reducible rfl))
      try simp only [Act.put, List.setIfInBounds_toArray, List.set_cons_zero, List.set_cons_succ]
      refine wpAnyH_take (oi := ⟨_, _, _, _, _, _⟩) (i := 12) (v := .bool true) rfl (by kernel_rfl) (by kernel_rfl) (by kernel_rfl) (fun _ _ _ h => h) (Or.inl ⟨by rfl, ?_⟩) (by assumption) ?_
      · (intro W hSw; obtain ⟨x0, x1, x2, x3, x4, x5⟩ := (HR5.out.call hSw).cells; rw [← HSS.out] at x1; go_simp; try (with_reducible rfl))
      try simp only [Act.put, List.setIfInBounds_toArray, List.set_cons_zero, List.set_cons_succ]
      refine wpAnyH_take (oi := ⟨_, _, _, _, _, _⟩) (i := 13) (v := .bool true) rfl (by kernel_rfl) (by kernel_rfl) (by kernel_rfl) (fun _ _ _ h => h) (Or.inl ⟨by rfl, ?_⟩) (by assumption) ?_
      · (intro W hSw; obtain ⟨x0, x1, x2, x3, x4, x5⟩ := (HR5.out.call hSw).cells; rw [← HSS.out] at x1; go_simp; try (with_reducible rfl))
      try simp only [Act.put, List.setIfInBounds_toArray, List.set_cons_zero, List.set_cons_succ]
      refine wpAnyH_take (oi := ⟨_, _, _, _, _, _⟩) (i := 14) (v := .int .i64 op) rfl (by kernel_rfl) (by kernel_rfl) (by kernel_rfl) (fun _ _ _ h => h) (Or.inl ⟨by rfl, ?_⟩) (by assumption) ?_
      · (intro W hSw; obtain ⟨x0, x1, x2, x3, x4, x5⟩ := (HR5.out.call hSw).cells; rw [← HSS.out] at x1; go_simp; try (with_reducible rfl))
      try simp only [Act.put, List.setIfInBounds_toArray, List.set_cons_zero, List.set_cons_succ]
      refine wpAnyH_take (oi := ⟨_, _, _, _, _, _⟩) (i := 16) (v := .pointer (some ⟨gr, 2, none⟩)) rfl (by kernel_rfl) (by kernel_rfl) (by kernel_rfl) (fun _ _ _ h => h) (Or.inl ⟨by rfl, ?_⟩) (by assumption) ?_
      · (intro W hSw; obtain ⟨x0, x1, x2, x3, x4, x5⟩ := (HR5.out.call hSw).cells; rw [← HSS.out] at x1; go_simp; try (with_reducible rfl))
      try simp only [Act.put, List.setIfInBounds_toArray, List.set_cons_zero, List.set_cons_succ]
      refine wpAnyH_take (oi := ⟨_, _, _, _, _, _⟩) (i := 17) (v := .int .i64 im) rfl (by kernel_rfl) (by kernel_rfl) (by kernel_rfl) (fun _ _ _ h => h) (Or.inl ⟨by rfl, ?_⟩) (by assumption) ?_
      · (intro W hSw; obtain ⟨x0, x1, x2, x3, x4, x5⟩ := (HR5.out.call hSw).cells; rw [← HSS.out] at x1; go_simp; try (with_reducible rfl))
      try simp only [Act.put, List.setIfInBounds_toArray, List.set_cons_zero, List.set_cons_succ]
      refine wpAnyH_ready (rs := [15]) (by kernel_rfl) (by simp) ?_
      refine AllReadyH.cons (o := ⟨_, _, _, _, _, _⟩) rfl (fun K hK => ?_) ?_
      · go_simp
        go_at_call 13
        (with_reducible refine (HI _).out.mono ?_)
        rintro e W3 ⟨rfl, hb⟩
        replace hS := hS.trans (hb.mono hS.size)
        clear hb
        refine hK.out _ _ hS (fun _ => ?_)
        clear hK K
        try simp only [Act.put, List.setIfInBounds_toArray, List.set_cons_zero, List.set_cons_succ]
        refine wpAnyH_take (oi := ⟨_, _, _, _, _, _⟩) (i := 18) (v := .bool true) rfl (by kernel_rfl) (by kernel_rfl) (by kernel_rfl) (fun _ _ _ h => h) (Or.inl ⟨by rfl, ?_⟩) (by assumption) ?_
        · (intro W hSw; obtain ⟨x0, x1, x2, x3, x4, x5⟩ := (HR5.out.call hSw).cells; rw [← HSS.out] at x1; go_simp; try (with_reducible rfl))
        try simp only [Act.put, List.setIfInBounds_toArray, List.set_cons_zero, List.set_cons_succ]
        refine wpAnyH_take (oi := ⟨_, _, _, _, _, _⟩) (i := 19) (v := .bool true) rfl (by kernel_rfl) (by kernel_rfl) (by kernel_rfl) (fun _ _ _ h => h) (Or.inl ⟨by rfl, ?_⟩) (by assumption) ?_
        · (intro W hSw; obtain ⟨x0, x1, x2, x3, x4, x5⟩ := (HR5.out.call hSw).cells; rw [← HSS.out] at x1; go_simp; try (with_reducible rfl))
        try simp only [Act.put, List.setIfInBounds_toArray, List.set_cons_zero, List.set_cons_succ]
        refine wpAnyH_take (oi := ⟨_, _, _, _, _, _⟩) (i := 20) (v := .bool true) rfl (by kernel_rfl) (by kernel_rfl) (by kernel_rfl) (fun _ _ _ h => h) (Or.inl ⟨by rfl, ?_⟩) (by assumption) ?_
        · (intro W hSw; obtain ⟨x0, x1, x2, x3, x4, x5⟩ := (HR5.out.call hSw).cells; rw [← HSS.out] at x1; go_simp; try (with_reducible rfl))
        try simp only [Act.put, List.setIfInBounds_toArray, List.set_cons_zero, List.set_cons_succ]
        refine wpAnyH_take (oi := ⟨_, _, _, _, _, _⟩) (i := 21) (v := .bool fx) rfl (by kernel_rfl) (by kernel_rfl) (by kernel_rfl) (fun _ _ _ h => h) (Or.inl ⟨by rfl, ?_⟩) (by assumption) ?_
        · (intro W hSw; obtain ⟨x0, x1, x2, x3, x4, x5⟩ := (HR5.out.call hSw).cells; rw [← HSS.out] at x1; go_simp; try (with_reducible rfl))
        try simp only [Act.put, List.setIfInBounds_toArray, List.set_cons_zero, List.set_cons_succ]
        refine wpAnyH_take (oi := ⟨_, _, _, _, _, _⟩) (i := 22) (v := .pointer (some ⟨gr, 5, none⟩)) rfl (by kernel_rfl) (by kernel_rfl) (by kernel_rfl) (fun _ _ _ h => h) (Or.inl ⟨by rfl, ?_⟩) (by assumption) ?_
        · (intro W hSw; obtain ⟨x0, x1, x2, x3, x4, x5⟩ := (HR5.out.call hSw).cells; rw [← HSS.out] at x1; go_simp; try (with_reducible rfl))
        try simp only [Act.put, List.setIfInBounds_toArray, List.set_cons_zero, List.set_cons_succ]
        refine wpAnyH_take (oi := ⟨_, _, _, _, _, _⟩) (i := 23) (v := .bool fx) rfl (by kernel_rfl) (by kernel_rfl) (by kernel_rfl) (fun _ _ _ h => h) (Or.inl ⟨by rfl, ?_⟩) (by assumption) ?_
        · (intro W hSw; obtain ⟨x0, x1, x2, x3, x4, x5⟩ := (HR5.out.call hSw).cells; rw [← HSS.out] at x1; go_simp; try (with_reducible rfl))
        try simp only [Act.put, List.setIfInBounds_toArray, List.set_cons_zero, List.set_cons_succ]
        refine wpAnyH_take (oi := ⟨_, _, _, _, _, _⟩) (i := 24) (v := .bool true) rfl (by kernel_rfl) (by kernel_rfl) (by kernel_rfl) (fun _ _ _ h => h) (Or.inl ⟨by rfl, ?_⟩) (by assumption) ?_
        · (intro W hSw; obtain ⟨x0, x1, x2, x3, x4, x5⟩ := (HR5.out.call hSw).cells; rw [← HSS.out] at x1; go_simp; try (with_reducible rfl))
        try simp only [Act.put, List.setIfInBounds_toArray, List.set_cons_zero, List.set_cons_succ]
        refine wpAnyH_take (oi := ⟨_, _, _, _, _, _⟩) (i := 25) (v := .bool true) rfl (by kernel_rfl) (by kernel_rfl) (by kernel_rfl) (fun _ _ _ h => h) (Or.inl ⟨by rfl, ?_⟩) (by assumption) ?_
        · (intro W hSw; obtain ⟨x0, x1, x2, x3, x4, x5⟩ := (HR5.out.call hSw).cells; rw [← HSS.out] at x1; go_simp; try (with_reducible rfl))
        try simp only [Act.put, List.setIfInBounds_toArray, List.set_cons_zero, List.set_cons_succ]
        refine wpAnyH_take (oi := ⟨_, _, _, _, _, _⟩) (i := 26) (v := .bool true) rfl (by kernel_rfl) (by kernel_rfl) (by kernel_rfl) (fun _ _ _ h => h) (Or.inl ⟨by rfl, ?_⟩) (by assumption) ?_
        · (intro W hSw; obtain ⟨x0, x1, x2, x3, x4, x5⟩ := (HR5.out.call hSw).cells; rw [← HSS.out] at x1; go_simp; try (with_reducible rfl))
        try simp only [Act.put, List.setIfInBounds_toArray, List.set_cons_zero, List.set_cons_succ]
        refine wpAnyH_take (oi := ⟨_, _, _, _, _, _⟩) (i := 27) (v := v1) rfl (by kernel_rfl) (by kernel_rfl) (by kernel_rfl) (fun _ _ _ h => h) (Or.inl ⟨by rfl, ?_⟩) (by assumption) ?_
        · (intro W hSw; obtain ⟨x0, x1, x2, x3, x4, x5⟩ := (HR5.out.call hSw).cells; rw [← HSS.out] at x1; go_simp; try (with_reducible rfl))
        try simp only [Act.put, List.setIfInBounds_toArray, List.set_cons_zero, List.set_cons_succ]
        refine wpAnyH_take (oi := ⟨_, _, _, _, _, _⟩) (i := 28) (v := .pointer (some ⟨gr, 3, none⟩)) rfl (by kernel_rfl) (by kernel_rfl) (by kernel_rfl) (fun _ _ _ h => h) (Or.inl ⟨by rfl, ?_⟩) (by assumption) ?_
        · (intro W hSw; obtain ⟨x0, x1, x2, x3, x4, x5⟩ := (HR5.out.call hSw).cells; rw [← HSS.out] at x1; go_simp; try (with_reducible rfl))
        try simp only [Act.put, List.setIfInBounds_toArray, List.set_cons_zero, List.set_cons_succ]
        refine wpAnyH_take (oi := ⟨_, _, _, _, _, _⟩) (i := 29) (v := .string (str tk)) rfl (by kernel_rfl) (by kernel_rfl) (by kernel_rfl) (fun _ _ _ h => h) (Or.inl ⟨by rfl, ?_⟩) (by assumption) ?_
        · (intro W hSw; obtain ⟨x0, x1, x2, x3, x4, x5⟩ := (HR5.out.call hSw).cells; rw [← HSS.out] at x1; go_simp; try (with_reducible rfl))
        try simp only [Act.put, List.setIfInBounds_toArray, List.set_cons_zero, List.set_cons_succ]
        refine wpAnyH_ready (rs := [30]) (by kernel_rfl) (by simp) ?_
        refine AllReadyH.cons (o := ⟨_, _, _, _, _, _⟩) rfl (fun K hK => ?_) ?_
        · go_simp
          go_at_call 15
          (with_reducible refine (HTk _).out.mono ?_)
          rintro e W4 ⟨vt, rfl, hown, hb⟩
          have hT := row_of hown
          replace hS := hS.trans (hb.mono hS.size)
          clear hb
          clear hown
          refine hK.out _ _ hS (fun _ => ?_)
          clear hK K
          try simp only [Act.put, List.setIfInBounds_toArray, List.set_cons_zero, List.set_cons_succ]
          refine wpAnyH_ready (rs := [31]) (by kernel_rfl) (by simp) ?_
          refine AllReadyH.cons (o := ⟨_, _, _, _, _, _⟩) rfl (fun K hK => ?_) ?_
          · go_simp
            go_at_call 14
            (with_reducible refine (HSA v1 vt la _ HL1.out (HA5.out.kept hS) hT).out.mono ?_)
            rintro e W5 ⟨rfl, hb⟩
            replace hS := hS.trans (hb.mono hS.size)
            clear hb
            refine hK.out _ _ hS (fun _ => ?_)
            clear hK K
            try simp only [Act.put, List.setIfInBounds_toArray, List.set_cons_zero, List.set_cons_succ]
            refine wpAnyH_take (oi := ⟨_, _, _, _, _, _⟩) (i := 32) (v := .bool true) rfl (by kernel_rfl) (by kernel_rfl) (by kernel_rfl) (fun _ _ _ h => h) (Or.inl ⟨by rfl, ?_⟩) (by assumption) ?_
            · (intro W hSw; obtain ⟨x0, x1, x2, x3, x4, x5⟩ := (HR5.out.call hSw).cells; rw [← HSS.out] at x1; go_simp; try (with_reducible rfl))
            try simp only [Act.put, List.setIfInBounds_toArray, List.set_cons_zero, List.set_cons_succ]
            refine wpAnyH_take (oi := ⟨_, _, _, _, _, _⟩) (i := 33) (v := .bool true) rfl (by kernel_rfl) (by kernel_rfl) (by kernel_rfl) (fun _ _ _ h => h) (Or.inl ⟨by rfl, ?_⟩) (by assumption) ?_
            · (intro W hSw; obtain ⟨x0, x1, x2, x3, x4, x5⟩ := (HR5.out.call hSw).cells; rw [← HSS.out] at x1; go_simp; try (with_reducible rfl))
            try simp only [Act.put, List.setIfInBounds_toArray, List.set_cons_zero, List.set_cons_succ]
            refine wpAnyH_take (oi := ⟨_, _, _, _, _, _⟩) (i := 34) (v := v2) rfl (by kernel_rfl) (by kernel_rfl) (by kernel_rfl) (fun _ _ _ h => h) (Or.inl ⟨by rfl, ?_⟩) (by assumption) ?_
            · (intro W hSw; obtain ⟨x0, x1, x2, x3, x4, x5⟩ := (HR5.out.call hSw).cells; rw [← HSS.out] at x1; go_simp; try (with_reducible rfl))
            try simp only [Act.put, List.setIfInBounds_toArray, List.set_cons_zero, List.set_cons_succ]
            refine wpAnyH_take (oi := ⟨_, _, _, _, _, _⟩) (i := 35) (v := .pointer (some ⟨gr, 4, none⟩)) rfl (by kernel_rfl) (by kernel_rfl) (by kernel_rfl) (fun _ _ _ h => h) (Or.inl ⟨by rfl, ?_⟩) (by assumption) ?_
            · (intro W hSw; obtain ⟨x0, x1, x2, x3, x4, x5⟩ := (HR5.out.call hSw).cells; rw [← HSS.out] at x1; go_simp; try (with_reducible rfl))
            try simp only [Act.put, List.setIfInBounds_toArray, List.set_cons_zero, List.set_cons_succ]
            refine wpAnyH_take (oi := ⟨_, _, _, _, _, _⟩) (i := 36) (v := .string (str lv)) rfl (by kernel_rfl) (by kernel_rfl) (by kernel_rfl) (fun _ _ _ h => h) (Or.inl ⟨by rfl, ?_⟩) (by assumption) ?_
            · (intro W hSw; obtain ⟨x0, x1, x2, x3, x4, x5⟩ := (HR5.out.call hSw).cells; rw [← HSS.out] at x1; go_simp; try (with_reducible rfl))
            try simp only [Act.put, List.setIfInBounds_toArray, List.set_cons_zero, List.set_cons_succ]
            refine wpAnyH_ready (rs := [37]) (by kernel_rfl) (by simp) ?_
            refine AllReadyH.cons (o := ⟨_, _, _, _, _, _⟩) rfl (fun K hK => ?_) ?_
            · go_simp
              go_at_call 15
              (with_reducible refine (HTl _).out.mono ?_)
              rintro e W6 ⟨vu, rfl, hown, hb⟩
              have hU := row_of hown
              replace hS := hS.trans (hb.mono hS.size)
              clear hb
              clear hown
              refine hK.out _ _ hS (fun _ => ?_)
              clear hK K
              try simp only [Act.put, List.setIfInBounds_toArray, List.set_cons_zero, List.set_cons_succ]
              refine wpAnyH_ready (rs := [38]) (by kernel_rfl) (by simp) ?_
              refine AllReadyH.cons (o := ⟨_, _, _, _, _, _⟩) rfl (fun K hK => ?_) ?_
              · go_simp
                go_at_call 14
                (with_reducible refine (HSA v2 vu lb _ HL2.out (HD5.out.kept hS) hU).out.mono ?_)
                rintro e W7 ⟨rfl, hb⟩
                replace hS := hS.trans (hb.mono hS.size)
                clear hb
                refine hK.out _ _ hS (fun _ => ?_)
                clear hK K
                try simp only [Act.put, List.setIfInBounds_toArray, List.set_cons_zero, List.set_cons_succ]
                refine wpAnyH_take (oi := ⟨_, _, _, _, _, _⟩) (i := 39) (v := .bool true) rfl (by kernel_rfl) (by kernel_rfl) (by kernel_rfl) (fun _ _ _ h => h) (Or.inl ⟨by rfl, ?_⟩) (by assumption) ?_
                · (intro W hSw; obtain ⟨x0, x1, x2, x3, x4, x5⟩ := (HR5.out.call hSw).cells; rw [← HSS.out] at x1; go_simp; try (with_reducible rfl))
                try simp only [Act.put, List.setIfInBounds_toArray, List.set_cons_zero, List.set_cons_succ]
                refine wpAnyH_take (oi := ⟨_, _, _, _, _, _⟩) (i := 40) (v := .bool true) rfl (by kernel_rfl) (by kernel_rfl) (by kernel_rfl) (fun _ _ _ h => h) (Or.inl ⟨by rfl, ?_⟩) (by assumption) ?_
                · (intro W hSw; obtain ⟨x0, x1, x2, x3, x4, x5⟩ := (HR5.out.call hSw).cells; rw [← HSS.out] at x1; go_simp; try (with_reducible rfl))
                try simp only [Act.put, List.setIfInBounds_toArray, List.set_cons_zero, List.set_cons_succ]
                refine wpAnyH_take (oi := ⟨_, _, _, _, _, _⟩) (i := 41) (v := .int .i64 op) rfl (by kernel_rfl) (by kernel_rfl) (by kernel_rfl) (fun _ _ _ h => h) (Or.inl ⟨by rfl, ?_⟩) (by assumption) ?_
                · (intro W hSw; obtain ⟨x0, x1, x2, x3, x4, x5⟩ := (HR5.out.call hSw).cells; rw [← HSS.out] at x1; go_simp; try (with_reducible rfl))
                try simp only [Act.put, List.setIfInBounds_toArray, List.set_cons_zero, List.set_cons_succ]
                refine wpAnyH_take (oi := ⟨_, _, _, _, _, _⟩) (i := 43) (v := .int .i64 op) rfl (by kernel_rfl) (by kernel_rfl) (by kernel_rfl) (fun _ _ _ h => h) (Or.inl ⟨by rfl, ?_⟩) (by assumption) ?_
                · (intro W hSw; obtain ⟨x0, x1, x2, x3, x4, x5⟩ := (HR5.out.call hSw).cells; rw [← HSS.out] at x1; go_simp; try (with_reducible rfl))
                try simp only [Act.put, List.setIfInBounds_toArray, List.set_cons_zero, List.set_cons_succ]
                refine wpAnyH_ready (rs := [42]) (by kernel_rfl) (by simp) ?_
                refine AllReadyH.cons (o := ⟨_, _, _, _, _, _⟩) rfl (fun K hK => ?_) ?_
                · go_simp
                  go_at_call 16
                  (with_reducible refine (H16 _ (HG5.out.next hS)).out.mono ?_)
                  rintro e W8 ⟨rfl, hb⟩
                  replace hS := hS.trans (hb.mono hS.size)
                  clear hb
                  refine hK.out _ _ hS (fun _ => ?_)
                  clear hK K
                  try simp only [Act.put, List.setIfInBounds_toArray, List.set_cons_zero, List.set_cons_succ]
                  refine wpAnyH_ready (rs := [44]) (by kernel_rfl) (by simp) ?_
                  refine AllReadyH.cons (o := ⟨_, _, _, _, _, _⟩) rfl (fun K hK => ?_) ?_
                  · go_simp
                    go_at_call 17
                    (with_reducible refine (H17 _).out.mono ?_)
                    rintro e W9 ⟨rfl, hb⟩
                    replace hS := hS.trans (hb.mono hS.size)
                    clear hb
                    refine hK.out _ _ hS (fun _ => ?_)
                    clear hK K
                    try simp only [Act.put, List.setIfInBounds_toArray, List.set_cons_zero, List.set_cons_succ]
                    refine wpAnyH_take (oi := ⟨_, _, _, _, _, _⟩) (i := 45) (v := .bool true) rfl (by kernel_rfl) (by kernel_rfl) (by kernel_rfl) (fun _ _ _ h => h) (Or.inl ⟨by rfl, ?_⟩) (by assumption) ?_
                    · (intro W hSw; obtain ⟨x0, x1, x2, x3, x4, x5⟩ := (HR5.out.call hSw).cells; rw [← HSS.out] at x1; go_simp; try (with_reducible rfl))
                    try simp only [Act.put, List.setIfInBounds_toArray, List.set_cons_zero, List.set_cons_succ]
                    refine wpAnyH_take (oi := ⟨_, _, _, _, _, _⟩) (i := 46) (v := .bool true) rfl (by kernel_rfl) (by kernel_rfl) (by kernel_rfl) (fun _ _ _ h => h) (Or.inl ⟨by rfl, ?_⟩) (by assumption) ?_
                    · (intro W hSw; obtain ⟨x0, x1, x2, x3, x4, x5⟩ := (HR5.out.call hSw).cells; rw [← HSS.out] at x1; go_simp; try (with_reducible rfl))
                    try simp only [Act.put, List.setIfInBounds_toArray, List.set_cons_zero, List.set_cons_succ]
                    refine wpAnyH_take (oi := ⟨_, _, _, _, _, _⟩) (i := 47) (v := .bool true) rfl (by kernel_rfl) (by kernel_rfl) (by kernel_rfl) (fun _ _ _ h => h) (Or.inl ⟨by rfl, ?_⟩) (by assumption) ?_
                    · (intro W hSw; obtain ⟨x0, x1, x2, x3, x4, x5⟩ := (HR5.out.call hSw).cells; rw [← HSS.out] at x1; go_simp; try (with_reducible rfl))
                    try simp only [Act.put, List.setIfInBounds_toArray, List.set_cons_zero, List.set_cons_succ]
                    refine wpAnyH_take (oi := ⟨_, _, _, _, _, _⟩) (i := 48) (v := .int .i64 op) rfl (by kernel_rfl) (by kernel_rfl) (by kernel_rfl) (fun _ _ _ h => h) (Or.inl ⟨by rfl, ?_⟩) (by assumption) ?_
                    · (intro W hSw; obtain ⟨x0, x1, x2, x3, x4, x5⟩ := (HR5.out.call hSw).cells; rw [← HSS.out] at x1; go_simp; try (with_reducible rfl))
                    try simp only [Act.put, List.setIfInBounds_toArray, List.set_cons_zero, List.set_cons_succ]
                    refine wpAnyH_take (oi := ⟨_, _, _, _, _, _⟩) (i := 50) (v := .int .i64 op) rfl (by kernel_rfl) (by kernel_rfl) (by kernel_rfl) (fun _ _ _ h => h) (Or.inl ⟨by rfl, ?_⟩) (by assumption) ?_
                    · (intro W hSw; obtain ⟨x0, x1, x2, x3, x4, x5⟩ := (HR5.out.call hSw).cells; rw [← HSS.out] at x1; go_simp; try (with_reducible rfl))
                    try simp only [Act.put, List.setIfInBounds_toArray, List.set_cons_zero, List.set_cons_succ]
                    refine wpAnyH_ready (rs := [49]) (by kernel_rfl) (by simp) ?_
                    refine AllReadyH.cons (o := ⟨_, _, _, _, _, _⟩) rfl (fun K hK => ?_) ?_
                    · go_simp
                      go_at_call 18
                      (with_reducible refine (H18 _ (HG5.out.next hS)).out.mono ?_)
                      rintro e W10 ⟨rfl, hb⟩
                      replace hS := hS.trans (hb.mono hS.size)
                      clear hb
                      refine hK.out _ _ hS (fun _ => ?_)
                      clear hK K
                      try simp only [Act.put, List.setIfInBounds_toArray, List.set_cons_zero, List.set_cons_succ]
                      refine wpAnyH_ready (rs := [51]) (by kernel_rfl) (by simp) ?_
                      refine AllReadyH.cons (o := ⟨_, _, _, _, _, _⟩) rfl (fun K hK => ?_) ?_
                      · go_simp
                        go_at_call 19
                        (with_reducible refine (H19 _).out.mono ?_)
                        rintro e W11 ⟨rfl, hb⟩
                        replace hS := hS.trans (hb.mono hS.size)
                        clear hb
                        refine hK.out _ _ hS (fun _ => ?_)
                        clear hK K
                        try simp only [Act.put, List.setIfInBounds_toArray, List.set_cons_zero, List.set_cons_succ]
                        refine wpAnyH_take (oi := ⟨_, _, _, _, _, _⟩) (i := 52) (v := .bool true) rfl (by kernel_rfl) (by kernel_rfl) (by kernel_rfl) (fun _ _ _ h => h) (Or.inl ⟨by rfl, ?_⟩) (by assumption) ?_
                        · (intro W hSw; obtain ⟨x0, x1, x2, x3, x4, x5⟩ := (HR5.out.call hSw).cells; rw [← HSS.out] at x1; go_simp; try (with_reducible rfl))
                        try simp only [Act.put, List.setIfInBounds_toArray, List.set_cons_zero, List.set_cons_succ]
                        refine wpAnyH_take (oi := ⟨_, _, _, _, _, _⟩) (i := 53) (v := .bool true) rfl (by kernel_rfl) (by kernel_rfl) (by kernel_rfl) (fun _ _ _ h => h) (Or.inl ⟨by rfl, ?_⟩) (by assumption) ?_
                        · (intro W hSw; obtain ⟨x0, x1, x2, x3, x4, x5⟩ := (HR5.out.call hSw).cells; rw [← HSS.out] at x1; go_simp; try (with_reducible rfl))
                        try simp only [Act.put, List.setIfInBounds_toArray, List.set_cons_zero, List.set_cons_succ]
                        refine wpAnyH_take (oi := ⟨_, _, _, _, _, _⟩) (i := 54) (v := .bool true) rfl (by kernel_rfl) (by kernel_rfl) (by kernel_rfl) (fun _ _ _ h => h) (Or.inl ⟨by rfl, ?_⟩) (by assumption) ?_
                        · (intro W hSw; obtain ⟨x0, x1, x2, x3, x4, x5⟩ := (HR5.out.call hSw).cells; rw [← HSS.out] at x1; go_simp; try (with_reducible rfl))
                        try simp only [Act.put, List.setIfInBounds_toArray, List.set_cons_zero, List.set_cons_succ]
                        refine wpAnyH_done (by kernel_rfl) ?_ _
                        (go_wp2_with fail)
                        go_ret
                        exact ⟨rfl, HB5.out.trans (hS.mono HB5.out.size)⟩
                      exact AllReadyH.nil
                    exact AllReadyH.nil
                  exact AllReadyH.nil
                exact AllReadyH.nil
              exact AllReadyH.nil
            exact AllReadyH.nil
          exact AllReadyH.nil
        exact AllReadyH.nil
      exact AllReadyH.nil
    exact AllReadyH.nil
  exact AllReadyH.nil
end Go.Proofs.YtnechalhgdmgiaaDoor
