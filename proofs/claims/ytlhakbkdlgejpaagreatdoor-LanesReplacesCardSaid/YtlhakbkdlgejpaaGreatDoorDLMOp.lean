/-
  The contract of the program's operand, of an argument that is a number: it stands in all lanes. Condition: lanes of 8, 16, 32 or 64 bits.
-/
import Derived.Test.YtlhakbkdlgejpaaGreatDoorDLMRep
set_option linter.unusedSimpArgs false
set_option linter.unusedVariables false
set_option maxRecDepth 100000
namespace Go.Proofs.YtlhakbkdlgejpaaGreatDoor
open Go.RowKit

set_option maxHeartbeats 4000000 in
theorem operand_n1 (vb : List UInt8) (ff : Bool) (n : Nat) (hn : Okn n) (tf : Bool) (tb : Int) (sg : Bool) (va : Value) (l : List Av) (T : Int) (nn : Nat) (hT : (T == 123) = false) (hi' : l[1]? = some (T, nn, 0, false)) (w : World) (ha : AR w va l) :
    Calls Tryz.prog 64 #[insV vb ff n tf tb sg, va, .int .i64 1] w (LPost w (cnt n) (fun _ => nn)) := by
  obtain ⟨g, cap, rfl, hg, hcap, hat⟩ := ha
  obtain ⟨h0, h1, h2, h3⟩ := hat 1 _ hi'
  have hlt : 1 < l.length := (List.getElem?_eq_some_iff.1 hi').1
  have HC := fun W => hid (lcount_any n hn W)
  have hcc : cnt n = 2 ∨ cnt n = 4 ∨ cnt n = 8 ∨ cnt n = 16 := by rcases hn.cases with ⟨_, _, h⟩ | ⟨_, _, h⟩ | ⟨_, _, h⟩ | ⟨_, _, h⟩ <;> omega
  have HR := fun g1 W h => hid (Repeat_says (cnt n) hcc g1 nn W h)
  generalize cnt n = c at *
  obtain ⟨m, hm⟩ : ∃ m, m = l.length := ⟨_, rfl⟩
  rw [← hm] at hlt hcap ⊢
  unfold insV
  generalize str vb = s
  simp only [] at h0 h1 h2 h3
  simp only [Nat.one_mul, Nat.reduceAdd] at h0 h1 h2 h3
  clear hat hn hm hi' hcc h2 h3
  go_enter Tryz.func64, Tryz.ntmps64
  go_upto_region 6 with fail
  have hS : Below w.heap.size w (w.alloc (.cells #[.string s, .bool ff, .int .i64 n, .bool tf, .int .i64 tb, .bool sg] 50)).drew := ((Below.refl _ w).alloc (Nat.le_refl _) _).drew
  refine wp_region_held_drew (S := Below w.heap.size w) (by kernel_rfl) hS (fun _ => ?_)
  generalize (w.alloc (.cells #[.string s, .bool ff, .int .i64 n, .bool tf, .int .i64 tb, .bool sg] 50)).drew = W at *
  refine wpAnyH_take (oi := ⟨_, _, _, _, _, _⟩) (i := 0) (v := .slice (some ⟨g, 0, none⟩) m cap) rfl (by kernel_rfl) (by kernel_rfl) (by kernel_rfl) (fun _ _ _ h => h) (Or.inl ⟨by rfl, ?_⟩) (by assumption) ?_
  · (intro W hSw; have x1 := (hSw.cell (p := ⟨g, 5, none⟩) hg).trans h1; go_simp; try (with_reducible rfl))
  try simp only [Act.put, List.setIfInBounds_toArray, List.set_cons_zero, List.set_cons_succ]
  refine wpAnyH_take (oi := ⟨_, _, _, _, _, _⟩) (i := 1) (v := .int .i64 1) rfl (by kernel_rfl) (by kernel_rfl) (by kernel_rfl) (fun _ _ _ h => h) (Or.inl ⟨by rfl, ?_⟩) (by assumption) ?_
  · (intro W hSw; have x1 := (hSw.cell (p := ⟨g, 5, none⟩) hg).trans h1; go_simp; try (with_reducible rfl))
  try simp only [Act.put, List.setIfInBounds_toArray, List.set_cons_zero, List.set_cons_succ]
  refine wpAnyH_take (oi := ⟨_, _, _, _, _, _⟩) (i := 2) (v := .pointer (some ⟨g, 4, none⟩)) rfl (by kernel_rfl) (by kernel_rfl) (by kernel_rfl) (fun _ _ _ h => h) (Or.inl ⟨by rfl, ?_⟩) (by assumption) ?_
  · (intro W hSw; have x1 := (hSw.cell (p := ⟨g, 5, none⟩) hg).trans h1; go_simp; try (with_reducible rfl))
  try simp only [Act.put, List.setIfInBounds_toArray, List.set_cons_zero, List.set_cons_succ]
  refine wpAnyH_take (oi := ⟨_, _, _, _, _, _⟩) (i := 3) (v := .pointer (some ⟨g, 5, none⟩)) rfl (by kernel_rfl) (by kernel_rfl) (by kernel_rfl) (fun _ _ _ h => h) (Or.inl ⟨by rfl, ?_⟩) (by assumption) ?_
  · (intro W hSw; have x1 := (hSw.cell (p := ⟨g, 5, none⟩) hg).trans h1; go_simp; try (with_reducible rfl))
  try simp only [Act.put, List.setIfInBounds_toArray, List.set_cons_zero, List.set_cons_succ]
  refine wpAnyH_take (oi := ⟨_, _, _, _, _, _⟩) (i := 4) (v := .int .u64 (nn : Nat)) rfl (by kernel_rfl) (by kernel_rfl) (by kernel_rfl) (fun _ _ _ h => h) (Or.inl ⟨by rfl, ?_⟩) (by assumption) ?_
  · (intro W hSw; have x1 := (hSw.cell (p := ⟨g, 5, none⟩) hg).trans h1; go_simp; try (with_reducible rfl))
  try simp only [Act.put, List.setIfInBounds_toArray, List.set_cons_zero, List.set_cons_succ]
  refine wpAnyH_take (oi := ⟨_, _, _, _, _, _⟩) (i := 6) (v := .int .i64 n) rfl (by kernel_rfl) (by kernel_rfl) (by kernel_rfl) (fun _ _ _ h => h) (Or.inl ⟨by rfl, ?_⟩) (by assumption) ?_
  · (intro W hSw; have x1 := (hSw.cell (p := ⟨g, 5, none⟩) hg).trans h1; go_simp; try (with_reducible rfl))
  try simp only [Act.put, List.setIfInBounds_toArray, List.set_cons_zero, List.set_cons_succ]
  refine wpAnyH_ready (rs := [5, 7]) (by kernel_rfl) (by simp) ?_
  refine AllReadyH.cons (o := ⟨_, _, _, _, _, _⟩) rfl (fun K hK => ?_) ?_
  · go_simp
    have hq : (W.alloc (.cells #[.int .u64 (nn : Nat)] 22)).cell? ⟨W.heap.size, 0, none⟩ = some (.int .u64 (nn : Nat)) := (CA.new W _ 22).at (k := 0) rfl
    replace hS := hS.alloc hS.size (.cells #[.int .u64 (nn : Nat)] 22)
    generalize W.alloc (.cells #[.int .u64 (nn : Nat)] 22) = WB at *
    refine hK.out _ _ hS (fun _ => ?_)
    clear hK K
    try simp only [Act.put, List.setIfInBounds_toArray, List.set_cons_zero, List.set_cons_succ]
    refine wpAnyH_ready (rs := [7]) (by kernel_rfl) (by simp) ?_
    refine AllReadyH.cons (o := ⟨_, _, _, _, _, _⟩) rfl (fun K hK => ?_) ?_
    · go_simp
      go_at_call 52
      (with_reducible refine (HC _).out.mono ?_)
      rintro e w52 ⟨rfl, rfl⟩
      refine hK.out _ _ hS (fun _ => ?_)
      clear hK K
      try simp only [Act.put, List.setIfInBounds_toArray, List.set_cons_zero, List.set_cons_succ]
      refine wpAnyH_ready (rs := [8]) (by kernel_rfl) (by simp) ?_
      refine AllReadyH.cons (o := ⟨_, _, _, _, _, _⟩) rfl (fun K hK => ?_) ?_
      · go_simp
        go_at_call 101
        (with_reducible refine (HR W.heap.size WB hq).out.mono ?_)
        rintro e W9 ⟨v8, rfl, ho8, hb⟩
        have HO8 := hid (own_mono ho8 hS.size)
        replace hS := hS.trans (hb.mono hS.size)
        clear hb ho8
        refine hK.out _ _ hS (fun _ => ?_)
        clear hK K
        try simp only [Act.put, List.setIfInBounds_toArray, List.set_cons_zero, List.set_cons_succ]
        refine wpAnyH_take (oi := ⟨_, _, _, _, _, _⟩) (i := 9) (v := v8) rfl (by kernel_rfl) (by kernel_rfl) (by kernel_rfl) (fun _ _ _ h => h) (Or.inl ⟨by rfl, ?_⟩) (by assumption) ?_
        · (intro W hSw; have x1 := (hSw.cell (p := ⟨g, 5, none⟩) hg).trans h1; go_simp; try (with_reducible rfl))
        try simp only [Act.put, List.setIfInBounds_toArray, List.set_cons_zero, List.set_cons_succ]
        refine wpAnyH_done (by kernel_rfl) ?_ _
        go_wp2_with fail
        go_ret
        exact ⟨v8, rfl, HO8.out, hS⟩
      exact AllReadyH.nil
    exact AllReadyH.nil
  refine AllReadyH.cons (o := ⟨_, _, _, _, _, _⟩) rfl (fun K hK => ?_) ?_
  · go_simp
    go_at_call 52
    (with_reducible refine (HC _).out.mono ?_)
    rintro e w52 ⟨rfl, rfl⟩
    refine hK.out _ _ hS (fun _ => ?_)
    clear hK K
    try simp only [Act.put, List.setIfInBounds_toArray, List.set_cons_zero, List.set_cons_succ]
    refine wpAnyH_ready (rs := [5]) (by kernel_rfl) (by simp) ?_
    refine AllReadyH.cons (o := ⟨_, _, _, _, _, _⟩) rfl (fun K hK => ?_) ?_
    · go_simp
      have hq : (W.alloc (.cells #[.int .u64 (nn : Nat)] 22)).cell? ⟨W.heap.size, 0, none⟩ = some (.int .u64 (nn : Nat)) := (CA.new W _ 22).at (k := 0) rfl
      replace hS := hS.alloc hS.size (.cells #[.int .u64 (nn : Nat)] 22)
      generalize W.alloc (.cells #[.int .u64 (nn : Nat)] 22) = WB at *
      refine hK.out _ _ hS (fun _ => ?_)
      clear hK K
      try simp only [Act.put, List.setIfInBounds_toArray, List.set_cons_zero, List.set_cons_succ]
      refine wpAnyH_ready (rs := [8]) (by kernel_rfl) (by simp) ?_
      refine AllReadyH.cons (o := ⟨_, _, _, _, _, _⟩) rfl (fun K hK => ?_) ?_
      · go_simp
        go_at_call 101
        (with_reducible refine (HR W.heap.size WB hq).out.mono ?_)
        rintro e W9 ⟨v8, rfl, ho8, hb⟩
        have HO8 := hid (own_mono ho8 hS.size)
        replace hS := hS.trans (hb.mono hS.size)
        clear hb ho8
        refine hK.out _ _ hS (fun _ => ?_)
        clear hK K
        try simp only [Act.put, List.setIfInBounds_toArray, List.set_cons_zero, List.set_cons_succ]
        refine wpAnyH_take (oi := ⟨_, _, _, _, _, _⟩) (i := 9) (v := v8) rfl (by kernel_rfl) (by kernel_rfl) (by kernel_rfl) (fun _ _ _ h => h) (Or.inl ⟨by rfl, ?_⟩) (by assumption) ?_
        · (intro W hSw; have x1 := (hSw.cell (p := ⟨g, 5, none⟩) hg).trans h1; go_simp; try (with_reducible rfl))
        try simp only [Act.put, List.setIfInBounds_toArray, List.set_cons_zero, List.set_cons_succ]
        refine wpAnyH_done (by kernel_rfl) ?_ _
        go_wp2_with fail
        go_ret
        exact ⟨v8, rfl, HO8.out, hS⟩
      exact AllReadyH.nil
    exact AllReadyH.nil
  exact AllReadyH.nil
set_option maxHeartbeats 4000000 in
theorem operand_n0 (vb : List UInt8) (ff : Bool) (n : Nat) (hn : Okn n) (tf : Bool) (tb : Int) (sg : Bool) (va : Value) (l : List Av) (T : Int) (nn : Nat) (hT : (T == 123) = false) (hi' : l[0]? = some (T, nn, 0, false)) (w : World) (ha : AR w va l) :
    Calls Tryz.prog 64 #[insV vb ff n tf tb sg, va, .int .i64 0] w (LPost w (cnt n) (fun _ => nn)) := by
  obtain ⟨g, cap, rfl, hg, hcap, hat⟩ := ha
  obtain ⟨h0, h1, h2, h3⟩ := hat 0 _ hi'
  have hlt : 0 < l.length := (List.getElem?_eq_some_iff.1 hi').1
  have HC := fun W => hid (lcount_any n hn W)
  have hcc : cnt n = 2 ∨ cnt n = 4 ∨ cnt n = 8 ∨ cnt n = 16 := by rcases hn.cases with ⟨_, _, h⟩ | ⟨_, _, h⟩ | ⟨_, _, h⟩ | ⟨_, _, h⟩ <;> omega
  have HR := fun g1 W h => hid (Repeat_says (cnt n) hcc g1 nn W h)
  generalize cnt n = c at *
  obtain ⟨m, hm⟩ : ∃ m, m = l.length := ⟨_, rfl⟩
  rw [← hm] at hlt hcap ⊢
  unfold insV
  generalize str vb = s
  simp only [] at h0 h1 h2 h3
  simp only [Nat.zero_mul, Nat.zero_add] at h0 h1 h2 h3
  clear hat hn hm hi' hcc h2 h3
  go_enter Tryz.func64, Tryz.ntmps64
  go_upto_region 6 with fail
  have hS : Below w.heap.size w (w.alloc (.cells #[.string s, .bool ff, .int .i64 n, .bool tf, .int .i64 tb, .bool sg] 50)).drew := ((Below.refl _ w).alloc (Nat.le_refl _) _).drew
  refine wp_region_held_drew (S := Below w.heap.size w) (by kernel_rfl) hS (fun _ => ?_)
  generalize (w.alloc (.cells #[.string s, .bool ff, .int .i64 n, .bool tf, .int .i64 tb, .bool sg] 50)).drew = W at *
  refine wpAnyH_take (oi := ⟨_, _, _, _, _, _⟩) (i := 0) (v := .slice (some ⟨g, 0, none⟩) m cap) rfl (by kernel_rfl) (by kernel_rfl) (by kernel_rfl) (fun _ _ _ h => h) (Or.inl ⟨by rfl, ?_⟩) (by assumption) ?_
  · (intro W hSw; have x1 := (hSw.cell (p := ⟨g, 1, none⟩) hg).trans h1; go_simp; try (with_reducible rfl))
  try simp only [Act.put, List.setIfInBounds_toArray, List.set_cons_zero, List.set_cons_succ]
  refine wpAnyH_take (oi := ⟨_, _, _, _, _, _⟩) (i := 1) (v := .int .i64 0) rfl (by kernel_rfl) (by kernel_rfl) (by kernel_rfl) (fun _ _ _ h => h) (Or.inl ⟨by rfl, ?_⟩) (by assumption) ?_
  · (intro W hSw; have x1 := (hSw.cell (p := ⟨g, 1, none⟩) hg).trans h1; go_simp; try (with_reducible rfl))
  try simp only [Act.put, List.setIfInBounds_toArray, List.set_cons_zero, List.set_cons_succ]
  refine wpAnyH_take (oi := ⟨_, _, _, _, _, _⟩) (i := 2) (v := .pointer (some ⟨g, 0, none⟩)) rfl (by kernel_rfl) (by kernel_rfl) (by kernel_rfl) (fun _ _ _ h => h) (Or.inl ⟨by rfl, ?_⟩) (by assumption) ?_
  · (intro W hSw; have x1 := (hSw.cell (p := ⟨g, 1, none⟩) hg).trans h1; go_simp; try (with_reducible rfl))
  try simp only [Act.put, List.setIfInBounds_toArray, List.set_cons_zero, List.set_cons_succ]
  refine wpAnyH_take (oi := ⟨_, _, _, _, _, _⟩) (i := 3) (v := .pointer (some ⟨g, 1, none⟩)) rfl (by kernel_rfl) (by kernel_rfl) (by kernel_rfl) (fun _ _ _ h => h) (Or.inl ⟨by rfl, ?_⟩) (by assumption) ?_
  · (intro W hSw; have x1 := (hSw.cell (p := ⟨g, 1, none⟩) hg).trans h1; go_simp; try (with_reducible rfl))
  try simp only [Act.put, List.setIfInBounds_toArray, List.set_cons_zero, List.set_cons_succ]
  refine wpAnyH_take (oi := ⟨_, _, _, _, _, _⟩) (i := 4) (v := .int .u64 (nn : Nat)) rfl (by kernel_rfl) (by kernel_rfl) (by kernel_rfl) (fun _ _ _ h => h) (Or.inl ⟨by rfl, ?_⟩) (by assumption) ?_
  · (intro W hSw; have x1 := (hSw.cell (p := ⟨g, 1, none⟩) hg).trans h1; go_simp; try (with_reducible rfl))
  try simp only [Act.put, List.setIfInBounds_toArray, List.set_cons_zero, List.set_cons_succ]
  refine wpAnyH_take (oi := ⟨_, _, _, _, _, _⟩) (i := 6) (v := .int .i64 n) rfl (by kernel_rfl) (by kernel_rfl) (by kernel_rfl) (fun _ _ _ h => h) (Or.inl ⟨by rfl, ?_⟩) (by assumption) ?_
  · (intro W hSw; have x1 := (hSw.cell (p := ⟨g, 1, none⟩) hg).trans h1; go_simp; try (with_reducible rfl))
  try simp only [Act.put, List.setIfInBounds_toArray, List.set_cons_zero, List.set_cons_succ]
  refine wpAnyH_ready (rs := [5, 7]) (by kernel_rfl) (by simp) ?_
  refine AllReadyH.cons (o := ⟨_, _, _, _, _, _⟩) rfl (fun K hK => ?_) ?_
  · go_simp
    have hq : (W.alloc (.cells #[.int .u64 (nn : Nat)] 22)).cell? ⟨W.heap.size, 0, none⟩ = some (.int .u64 (nn : Nat)) := (CA.new W _ 22).at (k := 0) rfl
    replace hS := hS.alloc hS.size (.cells #[.int .u64 (nn : Nat)] 22)
    generalize W.alloc (.cells #[.int .u64 (nn : Nat)] 22) = WB at *
    refine hK.out _ _ hS (fun _ => ?_)
    clear hK K
    try simp only [Act.put, List.setIfInBounds_toArray, List.set_cons_zero, List.set_cons_succ]
    refine wpAnyH_ready (rs := [7]) (by kernel_rfl) (by simp) ?_
    refine AllReadyH.cons (o := ⟨_, _, _, _, _, _⟩) rfl (fun K hK => ?_) ?_
    · go_simp
      go_at_call 52
      (with_reducible refine (HC _).out.mono ?_)
      rintro e w52 ⟨rfl, rfl⟩
      refine hK.out _ _ hS (fun _ => ?_)
      clear hK K
      try simp only [Act.put, List.setIfInBounds_toArray, List.set_cons_zero, List.set_cons_succ]
      refine wpAnyH_ready (rs := [8]) (by kernel_rfl) (by simp) ?_
      refine AllReadyH.cons (o := ⟨_, _, _, _, _, _⟩) rfl (fun K hK => ?_) ?_
      · go_simp
        go_at_call 101
        (with_reducible refine (HR W.heap.size WB hq).out.mono ?_)
        rintro e W9 ⟨v8, rfl, ho8, hb⟩
        have HO8 := hid (own_mono ho8 hS.size)
        replace hS := hS.trans (hb.mono hS.size)
        clear hb ho8
        refine hK.out _ _ hS (fun _ => ?_)
        clear hK K
        try simp only [Act.put, List.setIfInBounds_toArray, List.set_cons_zero, List.set_cons_succ]
        refine wpAnyH_take (oi := ⟨_, _, _, _, _, _⟩) (i := 9) (v := v8) rfl (by kernel_rfl) (by kernel_rfl) (by kernel_rfl) (fun _ _ _ h => h) (Or.inl ⟨by rfl, ?_⟩) (by assumption) ?_
        · (intro W hSw; have x1 := (hSw.cell (p := ⟨g, 1, none⟩) hg).trans h1; go_simp; try (with_reducible rfl))
        try simp only [Act.put, List.setIfInBounds_toArray, List.set_cons_zero, List.set_cons_succ]
        refine wpAnyH_done (by kernel_rfl) ?_ _
        go_wp2_with fail
        go_ret
        exact ⟨v8, rfl, HO8.out, hS⟩
      exact AllReadyH.nil
    exact AllReadyH.nil
  refine AllReadyH.cons (o := ⟨_, _, _, _, _, _⟩) rfl (fun K hK => ?_) ?_
  · go_simp
    go_at_call 52
    (with_reducible refine (HC _).out.mono ?_)
    rintro e w52 ⟨rfl, rfl⟩
    refine hK.out _ _ hS (fun _ => ?_)
    clear hK K
    try simp only [Act.put, List.setIfInBounds_toArray, List.set_cons_zero, List.set_cons_succ]
    refine wpAnyH_ready (rs := [5]) (by kernel_rfl) (by simp) ?_
    refine AllReadyH.cons (o := ⟨_, _, _, _, _, _⟩) rfl (fun K hK => ?_) ?_
    · go_simp
      have hq : (W.alloc (.cells #[.int .u64 (nn : Nat)] 22)).cell? ⟨W.heap.size, 0, none⟩ = some (.int .u64 (nn : Nat)) := (CA.new W _ 22).at (k := 0) rfl
      replace hS := hS.alloc hS.size (.cells #[.int .u64 (nn : Nat)] 22)
      generalize W.alloc (.cells #[.int .u64 (nn : Nat)] 22) = WB at *
      refine hK.out _ _ hS (fun _ => ?_)
      clear hK K
      try simp only [Act.put, List.setIfInBounds_toArray, List.set_cons_zero, List.set_cons_succ]
      refine wpAnyH_ready (rs := [8]) (by kernel_rfl) (by simp) ?_
      refine AllReadyH.cons (o := ⟨_, _, _, _, _, _⟩) rfl (fun K hK => ?_) ?_
      · go_simp
        go_at_call 101
        (with_reducible refine (HR W.heap.size WB hq).out.mono ?_)
        rintro e W9 ⟨v8, rfl, ho8, hb⟩
        have HO8 := hid (own_mono ho8 hS.size)
        replace hS := hS.trans (hb.mono hS.size)
        clear hb ho8
        refine hK.out _ _ hS (fun _ => ?_)
        clear hK K
        try simp only [Act.put, List.setIfInBounds_toArray, List.set_cons_zero, List.set_cons_succ]
        refine wpAnyH_take (oi := ⟨_, _, _, _, _, _⟩) (i := 9) (v := v8) rfl (by kernel_rfl) (by kernel_rfl) (by kernel_rfl) (fun _ _ _ h => h) (Or.inl ⟨by rfl, ?_⟩) (by assumption) ?_
        · (intro W hSw; have x1 := (hSw.cell (p := ⟨g, 1, none⟩) hg).trans h1; go_simp; try (with_reducible rfl))
        try simp only [Act.put, List.setIfInBounds_toArray, List.set_cons_zero, List.set_cons_succ]
        refine wpAnyH_done (by kernel_rfl) ?_ _
        go_wp2_with fail
        go_ret
        exact ⟨v8, rfl, HO8.out, hS⟩
      exact AllReadyH.nil
    exact AllReadyH.nil
  exact AllReadyH.nil
end Go.Proofs.YtlhakbkdlgejpaaGreatDoor
