/-
  LMRep, LMOp: merged, what the law does not reach left out (each text says what it holds where it lies in wip). No condition.
-/
import Derived.Test.YtlhakbkdlgejpaaGreatDoorH06
import Derived.Laws.CopyOwn
import Derived.Deep.RegionLaw
import Derived.Deep.DeepCutAuto
import Derived.Deep.RegionHeld3
set_option linter.unusedSimpArgs false
set_option linter.unusedVariables false
set_option maxRecDepth 100000
namespace Go.Proofs.YtlhakbkdlgejpaaGreatDoor
open Go.RowKit
theorem EInv.heap {w : World} {g2 n : Nat} {F : Nat → Nat} {i : Nat} {wr : World} (h : EInv w g2 n F i wr) (hn : 0 < n) : wr.heap[g2]? = some (.cells (fc n (fun j => if j < i then F j else 0)).toArray 22 (0, 0)) := by
  obtain ⟨⟨hl, h1⟩, -, -, -⟩ := h
  rcases h1 with ⟨e, h2⟩ | ⟨g, cap, cur, e, e2, e3, e4, e5, e6, e7⟩
  · omega
  · obtain ⟨rfl, rfl⟩ : g2 = g ∧ n = cap := by simpa using e
    have e8 : cur.toList = fc n (fun j => if j < i then F j else 0) := by rw [← e7, List.take_of_length_le (by simp; omega)]
    rw [e3, ← e8]
theorem EInv.put {w : World} {g2 n : Nat} {F : Nat → Nat} {i k : Nat} {wr w' : World} (h : EInv w g2 n F i wr) (hh : w'.heap[g2]? = some (.cells (fc n (fun j => if j < k then F j else 0)).toArray 22 (0, 0))) (hb : Below w.heap.size w w') (hn : n ≤ maxLen) : EInv w g2 n F k w' := by
  refine ⟨⟨by rw [fc_length]; omega, .inr ⟨g2, n, _, rfl, h.2.2.1, hh, Nat.le_refl _, hn, by simp [fc_length], List.take_of_length_le (by rw [fc_length]; omega)⟩⟩, hb, h.2.2.1, (Array.getElem?_eq_some_iff.1 hh).1⟩
theorem splice_fc (c n m x : Nat) (h : n + m ≤ c) : splice (fc c (fun j => if j < n then x else 0)) n (fc m (fun _ => x)) = fc c (fun j => if j < n + m then x else 0) := by
  apply List.ext_getElem?
  intro j
  unfold splice
  rw [fc_length]
  rcases Nat.lt_or_ge j n with h1 | h1
  · rw [List.getElem?_append_left (by simp [fc_length]; omega), List.getElem?_take_of_lt h1, fc_get (by omega), fc_get (by omega)]
    simp [h1, show j < n + m by omega]
  · rw [List.getElem?_append_right (by simp [fc_length]; omega)]
    have e1 : (List.take n (fc c (fun j => if j < n then x else 0))).length = n := by simp [fc_length]; omega
    rw [e1]
    rcases Nat.lt_or_ge j (n + m) with h2 | h2
    · rw [List.getElem?_append_left (by simp [fc_length]; omega), fc_get (by omega), fc_get (by omega)]
      simp [h2]
    · rw [List.getElem?_append_right (by simp [fc_length]; omega), fc_length, List.getElem?_drop, show n + m + (j - n - m) = j by omega]
      rcases Nat.lt_or_ge j c with h3 | h3
      · rw [fc_get h3, fc_get h3]
        simp [show ¬ j < n by omega, show ¬ j < n + m by omega]
      · rw [List.getElem?_eq_none (by rw [fc_length]; omega), List.getElem?_eq_none (by rw [fc_length]; omega)]
theorem fc_one_cells (m x : Nat) : ∀ v ∈ fc m (fun _ => x), v.oneCell' = true := by
  intro v hv
  simp only [fc, List.mem_map] at hv
  obtain ⟨j, _, rfl⟩ := hv
  rfl
theorem add_none (g o j : Nat) : ((⟨g, o, none⟩ : Addr).add j) = ⟨g, o + j, none⟩ := by (simp [Addr.add]; try (intro h; subst h; rfl))
theorem Mul64_says (c : Nat) (hc : c = 2 ∨ c = 4 ∨ c = 8 ∨ c = 16) (w : World) : Calls Tryz.prog 238 #[.int .u64 1, .int .u64 c] w fun e w' => e = .returned (.tuple #[.int .u64 0, .int .u64 c]) ∧ w = w' := by
  have b1 : bits .and .u64 1 4294967295 = 1 := by decide
  have b2 : bits .and .u64 2 4294967295 = 2 := by decide
  have b4 : bits .and .u64 4 4294967295 = 4 := by decide
  have b8 : bits .and .u64 8 4294967295 = 8 := by decide
  have b16 : bits .and .u64 16 4294967295 = 16 := by decide
  have b0 : bits .and .u64 0 4294967295 = 0 := by decide
  rcases hc with rfl | rfl | rfl | rfl
  · show Calls Tryz.prog 238 #[.int .u64 1, .int .u64 2] w fun e w' => e = .returned (.tuple #[.int .u64 0, .int .u64 2]) ∧ w = w'
    go_enter Tryz.func238, Tryz.ntmps238
    go_wp2
    go_ret2
    exact ⟨rfl, rfl⟩
  · show Calls Tryz.prog 238 #[.int .u64 1, .int .u64 4] w fun e w' => e = .returned (.tuple #[.int .u64 0, .int .u64 4]) ∧ w = w'
    go_enter Tryz.func238, Tryz.ntmps238
    go_wp2
    go_ret2
    exact ⟨rfl, rfl⟩
  · show Calls Tryz.prog 238 #[.int .u64 1, .int .u64 8] w fun e w' => e = .returned (.tuple #[.int .u64 0, .int .u64 8]) ∧ w = w'
    go_enter Tryz.func238, Tryz.ntmps238
    go_wp2
    go_ret2
    exact ⟨rfl, rfl⟩
  · show Calls Tryz.prog 238 #[.int .u64 1, .int .u64 16] w fun e w' => e = .returned (.tuple #[.int .u64 0, .int .u64 16]) ∧ w = w'
    go_enter Tryz.func238, Tryz.ntmps238
    go_wp2
    go_ret2
    exact ⟨rfl, rfl⟩
theorem Mul_says (c : Nat) (hc : c = 2 ∨ c = 4 ∨ c = 8 ∨ c = 16) (w : World) : Calls Tryz.prog 170 #[.int .u64 1, .int .u64 c] w fun e w' => e = .returned (.tuple #[.int .u64 0, .int .u64 c]) ∧ w = w' := by
  have HM := fun W => hid (Mul64_says c hc W)
  clear hc
  go_enter Tryz.func170, Tryz.ntmps170
  go_wp2_with (go_at_call 238; refine (HM _).out.mono ?_; rintro e w1 ⟨rfl, rfl⟩)
  go_ret2
  exact ⟨rfl, rfl⟩
theorem iwrap_nm (n m : Nat) (h : n + m ≤ 100) : IntKind.i64.wrap ((n : Int) + (m : Int)) = (n : Int) + (m : Int) := by rw [IntKind.wrap_i64]; omega
theorem rep_src {g1 x : Nat} {w w3 : World} (hx : w.cell? ⟨g1, 0, none⟩ = some (.int .u64 (x : Nat))) (hb : Below w.heap.size w w3) : ∀ j v, (fc 1 (fun _ => x))[j]? = some v → w3.cell? ((⟨g1, 0, none⟩ : Addr).add j) = some v := fun j v hj => by
  have hg1 : g1 < w.heap.size := World.block_lt_of_cell? _ _ hx
  rw [add_none, Nat.zero_add, hb.cell (p := ⟨g1, j, none⟩) hg1]
  have h0 : j = 0 := by
    have := (List.getElem?_eq_some_iff.1 hj).1
    rw [fc_length] at this
    omega
  subst h0
  rw [fc_get (by omega)] at hj
  rw [hx]
  exact hj
set_option maxHeartbeats 4000000 in
theorem Repeat_says (c : Nat) (hc : c = 2 ∨ c = 4 ∨ c = 8 ∨ c = 16) (g1 x : Nat) (w : World) (hx : w.cell? ⟨g1, 0, none⟩ = some (.int .u64 (x : Nat))) :
    Calls Tryz.prog 101 #[.slice (some ⟨g1, 0, none⟩) 1 1, .int .i64 c] w (LPost w c (fun _ => x)) := by
  obtain ⟨i0, hi0, hz0, hz1, hz2⟩ := info_parts info22
  have HM := fun W => hid (Mul_says c hc W)
  have hs1 : (Tryz.prog.info? 22).map (·.size) = some 1 := by kernel_rfl
  have hg1 : g1 < w.heap.size := World.block_lt_of_cell? _ _ hx
  have hc2 : 2 ≤ c := by omega
  have hc16 : c ≤ 16 := by omega
  clear hc
  go_enter Tryz.func101, Tryz.ntmps101
  go_wp2_with (first
    | (go_at_call 170; refine (HM _).out.mono ?_; rintro e w1 ⟨rfl, rfl⟩)
    | (at_make; refine wpList_make_full _ rfl _ _ 40 rfl w.heap.size 22 i0 (.int .u64 0) 1 Tryz.underlying40 hi0 hz0 hz1 .i64 .i64 _ _ c rfl rfl rfl rfl (by rw [hz2]; omega) (by unfold maxLen; omega) (Nat.le_refl _) ?_; intro w3 hown3 hgrow3; have HE := hid (EInv.start (F := fun _ => x) hown3 hgrow3); have hsrc := rep_src hx HE.out.2.1; clear hown3 hgrow3)
    | (refine wpList_copy_splice rfl _ _ 40 40 rfl 22 Tryz.underlying40 hs1 _ _ _ _ _ _ rfl rfl w.heap.size 0 (fc c (fun j => if j < 0 then x else 0)) 22 (HE.out.heap (by omega)) (fc 1 (fun _ => x)) (by rw [fc_length]; exact (Nat.min_eq_left (by omega)).symm) (fun _ => ⟨rfl, _, rfl, hsrc⟩) (by rw [fc_length, fc_length]; omega) (fc_one_cells _ _) w.heap.size w HE.out.2.1 (Nat.le_refl _) ?_; intro w4 hh4 hb4; rw [fc_length]))
  have HE1 := hid (HE.out.put (k := 0 + 1) (by rw [← splice_fc c 0 1 x (by omega)]; exact hh4.out) hb4 (by unfold maxLen; omega))
  clear hh4 hb4 HE hsrc hx HM
  go_loopw [8] (fun v8 wr => ∃ n : Nat, 1 ≤ n ∧ n ≤ c ∧ v8 = .int .i64 n ∧ Hid (EInv w w.heap.size c (fun _ => x) n wr)) (fun v8 _ => c - (intOf v8).toNat)
  case atStart => exact ⟨1, Nat.le_refl _, by omega, rfl, HE1⟩
  case round =>
    obtain ⟨n, hn1, hnc, rfl, HI⟩ := hrel
    by_cases hlt : n < c
    · obtain ⟨m, hm⟩ : ∃ m, m = Nat.min n (c - n) := ⟨_, rfl⟩
      have hm1 : 1 ≤ m := by rw [hm]; exact Nat.le_min.2 ⟨hn1, by omega⟩
      have hm2 : m ≤ n := by rw [hm]; exact Nat.min_le_left _ _
      have hm3 : m ≤ c - n := by rw [hm]; exact Nat.min_le_right _ _
      have hsrc : ∀ wx, EInv w w.heap.size c (fun _ => x) n wx → ∀ j v, (fc m (fun _ => x))[j]? = some v → wx.cell? ((⟨w.heap.size, 0, none⟩ : Addr).add j) = some v := fun wx hI j v hj => by
        have hjm : j < m := by have := (List.getElem?_eq_some_iff.1 hj).1; rw [fc_length] at this; exact this
        rw [add_none, Nat.zero_add, hI.1.cellAt j (by omega), fc_get (by omega)]
        rw [fc_get hjm] at hj
        simpa [show j < n by omega] using hj
      go_upto_region 9 with fail
      have hS : EInv w w.heap.size c (fun _ => x) n wr.drew := ⟨HI.out.1, HI.out.2.1.drew, HI.out.2.2.1, HI.out.2.2.2⟩
      have i1 : (0 : Int) ≤ (n : Int) := by omega
      have i2 : (n : Int) ≤ (c : Int) := by omega
      have i3 : ((c : Int) - (n : Int)).toNat = c - n := by omega
      have i5 := iwrap_nm n m (by omega)
      have hne : ¬ c = n := by omega
      have HMM := hid hm
      clear HI hm
      refine wp_region_held_drew (S := fun W => ∃ k, EInv w w.heap.size c (fun _ => x) k W) (by kernel_rfl) ⟨n, hS⟩ (fun _ => ?_)
      generalize wr.drew = W at *
      refine wpAnyH_take (oi := ⟨_, _, _, _, _, _⟩) (i := 0) (v := .int .i64 n) rfl (by kernel_rfl) (by kernel_rfl) (by kernel_rfl) (fun _ _ _ h => h) (Or.inl ⟨by rfl, ?_⟩) (by exact ⟨_, by assumption⟩) ?_
      · (intro W hSw; skip; go_simp; try (with_reducible rfl))
      try simp only [Act.put, List.setIfInBounds_toArray, List.set_cons_zero, List.set_cons_succ]
      refine wpAnyH_take (oi := ⟨_, _, _, _, _, _⟩) (i := 1) (v := .slice (some ⟨w.heap.size, 0, none⟩) c c) rfl (by kernel_rfl) (by kernel_rfl) (by kernel_rfl) (fun _ _ _ h => h) (Or.inl ⟨by rfl, ?_⟩) (by exact ⟨_, by assumption⟩) ?_
      · (intro W hSw; skip; go_simp; try (with_reducible rfl))
      try simp only [Act.put, List.setIfInBounds_toArray, List.set_cons_zero, List.set_cons_succ]
      refine wpAnyH_take (oi := ⟨_, _, _, _, _, _⟩) (i := 2) (v := .int .i64 n) rfl (by kernel_rfl) (by kernel_rfl) (by kernel_rfl) (fun _ _ _ h => h) (Or.inl ⟨by rfl, ?_⟩) (by exact ⟨_, by assumption⟩) ?_
      · (intro W hSw; skip; go_simp; try (with_reducible rfl))
      try simp only [Act.put, List.setIfInBounds_toArray, List.set_cons_zero, List.set_cons_succ]
      refine wpAnyH_take (oi := ⟨_, _, _, _, _, _⟩) (i := 3) (v := .slice (some ⟨w.heap.size, n, none⟩) (c - n) (c - n)) rfl (by kernel_rfl) (by kernel_rfl) (by kernel_rfl) (fun _ _ _ h => h) (Or.inl ⟨by rfl, ?_⟩) (by exact ⟨_, by assumption⟩) ?_
      · (intro W hSw; skip; go_simp; try (with_reducible rfl))
      try simp only [Act.put, List.setIfInBounds_toArray, List.set_cons_zero, List.set_cons_succ]
      refine wpAnyH_take (oi := ⟨_, _, _, _, _, _⟩) (i := 4) (v := .slice (some ⟨w.heap.size, 0, none⟩) c c) rfl (by kernel_rfl) (by kernel_rfl) (by kernel_rfl) (fun _ _ _ h => h) (Or.inl ⟨by rfl, ?_⟩) (by exact ⟨_, by assumption⟩) ?_
      · (intro W hSw; skip; go_simp; try (with_reducible rfl))
      try simp only [Act.put, List.setIfInBounds_toArray, List.set_cons_zero, List.set_cons_succ]
      refine wpAnyH_take (oi := ⟨_, _, _, _, _, _⟩) (i := 5) (v := .int .i64 n) rfl (by kernel_rfl) (by kernel_rfl) (by kernel_rfl) (fun _ _ _ h => h) (Or.inl ⟨by rfl, ?_⟩) (by exact ⟨_, by assumption⟩) ?_
      · (intro W hSw; skip; go_simp; try (with_reducible rfl))
      try simp only [Act.put, List.setIfInBounds_toArray, List.set_cons_zero, List.set_cons_succ]
      refine wpAnyH_take (oi := ⟨_, _, _, _, _, _⟩) (i := 6) (v := .slice (some ⟨w.heap.size, 0, none⟩) n c) rfl (by kernel_rfl) (by kernel_rfl) (by kernel_rfl) (fun _ _ _ h => h) (Or.inl ⟨by rfl, ?_⟩) (by exact ⟨_, by assumption⟩) ?_
      · (intro W hSw; skip; go_simp; try (with_reducible rfl))
      try simp only [Act.put, List.setIfInBounds_toArray, List.set_cons_zero, List.set_cons_succ]
      refine wpAnyH_ready (rs := [7]) (by kernel_rfl) (by simp) ?_
      refine AllReadyH.cons (o := ⟨_, _, _, _, _, _⟩) rfl (fun K hK => ?_) ?_
      · refine step_copy_splice rfl (.tmp 41) (.tmp 44) 40 40 rfl 22 Tryz.underlying40 hs1 _ _ _ _ _ _ rfl rfl w.heap.size n (fc c (fun j => if j < n then x else 0)) 22 (hS.heap (by omega)) (fc m (fun _ => x)) (by rw [fc_length, HMM.out]; try rfl) (fun _ => ⟨rfl, _, rfl, hsrc W hS⟩) (by rw [fc_length, fc_length]; omega) (fc_one_cells _ _) w.heap.size w hS.2.1 (Nat.le_refl _) ?_
        intro w5 hh5 hb5
        rw [fc_length]
        have hS5 := hS.put (k := n + m) (by rw [← splice_fc c n m x (by omega)]; exact hh5.out) hb5 (by unfold maxLen; omega)
        refine hK.out _ _ ⟨_, hS5⟩ (fun _ => ?_)
        clear hK K
        try simp only [Act.put, List.setIfInBounds_toArray, List.set_cons_zero, List.set_cons_succ]
        refine wpAnyH_take (oi := ⟨_, _, _, _, _, _⟩) (i := 8) (v := .int .i64 ((n + m : Nat) : Int)) rfl (by kernel_rfl) (by kernel_rfl) (by kernel_rfl) (fun _ _ _ h => h) (Or.inl ⟨by rfl, ?_⟩) (by exact ⟨_, by assumption⟩) ?_
        · (intro W hSw; skip; go_simp; try (with_reducible rfl))
        try simp only [Act.put, List.setIfInBounds_toArray, List.set_cons_zero, List.set_cons_succ]
        refine wpAnyH_take (oi := ⟨_, _, _, _, _, _⟩) (i := 9) (v := .int .i64 ((n + m : Nat) : Int)) rfl (by kernel_rfl) (by kernel_rfl) (by kernel_rfl) (fun _ _ _ h => h) (Or.inl ⟨by rfl, ?_⟩) (by exact ⟨_, by assumption⟩) ?_
        · (intro W hSw; skip; go_simp; try (with_reducible rfl))
        try simp only [Act.put, List.setIfInBounds_toArray, List.set_cons_zero, List.set_cons_succ]
        refine wpAnyH_done (by kernel_rfl) ?_ _
        go_wp2_with fail
        go_roundw
        case rel => exact ⟨n + m, by omega, by omega, rfl, hS5⟩
        case measure => (simp [intOf]; omega)
      exact AllReadyH.nil
    · obtain rfl : n = c := by omega
      go_wp2
      go_ret
      refine ⟨_, rfl, ?_, HI.out.2.1⟩
      have := HI.out.1
      rw [show fc n (fun _ => x) = fc n (fun j => if j < n then x else 0) from ?_]
      · exact this
      · unfold fc
        exact List.map_congr_left fun j hj => by simp [List.mem_range.1 hj]
end Go.Proofs.YtlhakbkdlgejpaaGreatDoor
namespace Go.Proofs.YtlhakbkdlgejpaaGreatDoor
open Go.RowKit
set_option maxHeartbeats 4000000 in
theorem operand_n1 (vb : List UInt8) (ff : Bool) (n : Nat) (hn : Okn n) (tf : Bool) (tb : Int) (sg : Bool) (va : Value) (l : List Av) (T : Int) (nn : Nat) (hT : (T == 123) = false) (hi' : l[1]? = some (T, nn, 0, false)) (w : World) (ha : AR w va l) :
    Calls Tryz.prog 64 #[insV vb ff n tf tb sg, va, .int .i64 1] w (LPost w (cnt n) (fun _ => nn)) := by
  obtain ⟨g, cap, rfl, hg, hcap, hat⟩ := ha
  obtain ⟨h0, h1, h2, h3⟩ := hat 1 _ hi'
  have hlt : 1 < l.length := (List.getElem?_eq_some_iff.1 hi').1
  have HC := fun W => hid (lcount_any n hn W)
  have hcc : cnt n = 2 ∨ cnt n = 4 ∨ cnt n = 8 ∨ cnt n = 16 := by rcases hn.cases with ⟨_, _, h⟩ | ⟨_, _, h⟩ | ⟨_, _, h⟩ | ⟨_, _, h⟩ <;> omega
  have HR := fun g1 W h => hid (Repeat_says (cnt n) hcc g1 nn W h)
  generalize cnt n = c at *
  obtain ⟨m, hm⟩ : ∃ m, m = l.length := ⟨_, rfl⟩
  rw [← hm] at hlt hcap ⊢
  unfold insV
  generalize str vb = s
  simp only [] at h0 h1 h2 h3
  simp only [Nat.one_mul, Nat.reduceAdd] at h0 h1 h2 h3
  clear hat hn hm hi' hcc h2 h3
  go_enter Tryz.func64, Tryz.ntmps64
  go_upto_region 6 with fail
  have hS : Below w.heap.size w (w.alloc (.cells #[.string s, .bool ff, .int .i64 n, .bool tf, .int .i64 tb, .bool sg] 50)).drew := ((Below.refl _ w).alloc (Nat.le_refl _) _).drew
  refine wp_region_held_drew (S := Below w.heap.size w) (by kernel_rfl) hS (fun _ => ?_)
  generalize (w.alloc (.cells #[.string s, .bool ff, .int .i64 n, .bool tf, .int .i64 tb, .bool sg] 50)).drew = W at *
  refine wpAnyH_take (oi := ⟨_, _, _, _, _, _⟩) (i := 0) (v := .slice (some ⟨g, 0, none⟩) m cap) rfl (by kernel_rfl) (by kernel_rfl) (by kernel_rfl) (fun _ _ _ h => h) (Or.inl ⟨by rfl, ?_⟩) (by assumption) ?_
  · (intro W hSw; have x1 := (hSw.cell (p := ⟨g, 5, none⟩) hg).trans h1; go_simp; try (with_reducible rfl))
  try simp only [Act.put, List.setIfInBounds_toArray, List.set_cons_zero, List.set_cons_succ]
  refine wpAnyH_take (oi := ⟨_, _, _, _, _, _⟩) (i := 1) (v := .int .i64 1) rfl (by kernel_rfl) (by kernel_rfl) (by kernel_rfl) (fun _ _ _ h => h) (Or.inl ⟨by rfl, ?_⟩) (by assumption) ?_
  · (intro W hSw; have x1 := (hSw.cell (p := ⟨g, 5, none⟩) hg).trans h1; go_simp; try (with_reducible rfl))
  try simp only [Act.put, List.setIfInBounds_toArray, List.set_cons_zero, List.set_cons_succ]
  refine wpAnyH_take (oi := ⟨_, _, _, _, _, _⟩) (i := 2) (v := .pointer (some ⟨g, 4, none⟩)) rfl (by kernel_rfl) (by kernel_rfl) (by kernel_rfl) (fun _ _ _ h => h) (Or.inl ⟨by rfl, ?_⟩) (by assumption) ?_
  · (intro W hSw; have x1 := (hSw.cell (p := ⟨g, 5, none⟩) hg).trans h1; go_simp; try (with_reducible rfl))
  try simp only [Act.put, List.setIfInBounds_toArray, List.set_cons_zero, List.set_cons_succ]
  refine wpAnyH_take (oi := ⟨_, _, _, _, _, _⟩) (i := 3) (v := .pointer (some ⟨g, 5, none⟩)) rfl (by kernel_rfl) (by kernel_rfl) (by kernel_rfl) (fun _ _ _ h => h) (Or.inl ⟨by rfl, ?_⟩) (by assumption) ?_
  · (intro W hSw; have x1 := (hSw.cell (p := ⟨g, 5, none⟩) hg).trans h1; go_simp; try (with_reducible rfl))
  try simp only [Act.put, List.setIfInBounds_toArray, List.set_cons_zero, List.set_cons_succ]
  refine wpAnyH_take (oi := ⟨_, _, _, _, _, _⟩) (i := 4) (v := .int .u64 (nn : Nat)) rfl (by kernel_rfl) (by kernel_rfl) (by kernel_rfl) (fun _ _ _ h => h) (Or.inl ⟨by rfl, ?_⟩) (by assumption) ?_
  · (intro W hSw; have x1 := (hSw.cell (p := ⟨g, 5, none⟩) hg).trans h1; go_simp; try (with_reducible rfl))
  try simp only [Act.put, List.setIfInBounds_toArray, List.set_cons_zero, List.set_cons_succ]
  refine wpAnyH_take (oi := ⟨_, _, _, _, _, _⟩) (i := 6) (v := .int .i64 n) rfl (by kernel_rfl) (by kernel_rfl) (by kernel_rfl) (fun _ _ _ h => h) (Or.inl ⟨by rfl, ?_⟩) (by assumption) ?_
  · (intro W hSw; have x1 := (hSw.cell (p := ⟨g, 5, none⟩) hg).trans h1; go_simp; try (with_reducible rfl))
  try simp only [Act.put, List.setIfInBounds_toArray, List.set_cons_zero, List.set_cons_succ]
  refine wpAnyH_ready (rs := [5, 7]) (by kernel_rfl) (by simp) ?_
  refine AllReadyH.cons (o := ⟨_, _, _, _, _, _⟩) rfl (fun K hK => ?_) ?_
  · go_simp
    have hq : (W.alloc (.cells #[.int .u64 (nn : Nat)] 22)).cell? ⟨W.heap.size, 0, none⟩ = some (.int .u64 (nn : Nat)) := (CA.new W _ 22).at (k := 0) rfl
    replace hS := hS.alloc hS.size (.cells #[.int .u64 (nn : Nat)] 22)
    generalize W.alloc (.cells #[.int .u64 (nn : Nat)] 22) = WB at *
    refine hK.out _ _ hS (fun _ => ?_)
    clear hK K
    try simp only [Act.put, List.setIfInBounds_toArray, List.set_cons_zero, List.set_cons_succ]
    refine wpAnyH_ready (rs := [7]) (by kernel_rfl) (by simp) ?_
    refine AllReadyH.cons (o := ⟨_, _, _, _, _, _⟩) rfl (fun K hK => ?_) ?_
    · go_simp
      go_at_call 52
      (with_reducible refine (HC _).out.mono ?_)
      rintro e w52 ⟨rfl, rfl⟩
      refine hK.out _ _ hS (fun _ => ?_)
      clear hK K
      try simp only [Act.put, List.setIfInBounds_toArray, List.set_cons_zero, List.set_cons_succ]
      refine wpAnyH_ready (rs := [8]) (by kernel_rfl) (by simp) ?_
      refine AllReadyH.cons (o := ⟨_, _, _, _, _, _⟩) rfl (fun K hK => ?_) ?_
      · go_simp
        go_at_call 101
        (with_reducible refine (HR W.heap.size WB hq).out.mono ?_)
        rintro e W9 ⟨v8, rfl, ho8, hb⟩
        have HO8 := hid (own_mono ho8 hS.size)
        replace hS := hS.trans (hb.mono hS.size)
        clear hb ho8
        refine hK.out _ _ hS (fun _ => ?_)
        clear hK K
        try simp only [Act.put, List.setIfInBounds_toArray, List.set_cons_zero, List.set_cons_succ]
        refine wpAnyH_take (oi := ⟨_, _, _, _, _, _⟩) (i := 9) (v := v8) rfl (by kernel_rfl) (by kernel_rfl) (by kernel_rfl) (fun _ _ _ h => h) (Or.inl ⟨by rfl, ?_⟩) (by assumption) ?_
        · (intro W hSw; have x1 := (hSw.cell (p := ⟨g, 5, none⟩) hg).trans h1; go_simp; try (with_reducible rfl))
        try simp only [Act.put, List.setIfInBounds_toArray, List.set_cons_zero, List.set_cons_succ]
        refine wpAnyH_done (by kernel_rfl) ?_ _
        go_wp2_with fail
        go_ret
        exact ⟨v8, rfl, HO8.out, hS⟩
      exact AllReadyH.nil
    exact AllReadyH.nil
  refine AllReadyH.cons (o := ⟨_, _, _, _, _, _⟩) rfl (fun K hK => ?_) ?_
  · go_simp
    go_at_call 52
    (with_reducible refine (HC _).out.mono ?_)
    rintro e w52 ⟨rfl, rfl⟩
    refine hK.out _ _ hS (fun _ => ?_)
    clear hK K
    try simp only [Act.put, List.setIfInBounds_toArray, List.set_cons_zero, List.set_cons_succ]
    refine wpAnyH_ready (rs := [5]) (by kernel_rfl) (by simp) ?_
    refine AllReadyH.cons (o := ⟨_, _, _, _, _, _⟩) rfl (fun K hK => ?_) ?_
    · go_simp
      have hq : (W.alloc (.cells #[.int .u64 (nn : Nat)] 22)).cell? ⟨W.heap.size, 0, none⟩ = some (.int .u64 (nn : Nat)) := (CA.new W _ 22).at (k := 0) rfl
      replace hS := hS.alloc hS.size (.cells #[.int .u64 (nn : Nat)] 22)
      generalize W.alloc (.cells #[.int .u64 (nn : Nat)] 22) = WB at *
      refine hK.out _ _ hS (fun _ => ?_)
      clear hK K
      try simp only [Act.put, List.setIfInBounds_toArray, List.set_cons_zero, List.set_cons_succ]
      refine wpAnyH_ready (rs := [8]) (by kernel_rfl) (by simp) ?_
      refine AllReadyH.cons (o := ⟨_, _, _, _, _, _⟩) rfl (fun K hK => ?_) ?_
      · go_simp
        go_at_call 101
        (with_reducible refine (HR W.heap.size WB hq).out.mono ?_)
        rintro e W9 ⟨v8, rfl, ho8, hb⟩
        have HO8 := hid (own_mono ho8 hS.size)
        replace hS := hS.trans (hb.mono hS.size)
        clear hb ho8
        refine hK.out _ _ hS (fun _ => ?_)
        clear hK K
        try simp only [Act.put, List.setIfInBounds_toArray, List.set_cons_zero, List.set_cons_succ]
        refine wpAnyH_take (oi := ⟨_, _, _, _, _, _⟩) (i := 9) (v := v8) rfl (by kernel_rfl) (by kernel_rfl) (by kernel_rfl) (fun _ _ _ h => h) (Or.inl ⟨by rfl, ?_⟩) (by assumption) ?_
        · (intro W hSw; have x1 := (hSw.cell (p := ⟨g, 5, none⟩) hg).trans h1; go_simp; try (with_reducible rfl))
        try simp only [Act.put, List.setIfInBounds_toArray, List.set_cons_zero, List.set_cons_succ]
        refine wpAnyH_done (by kernel_rfl) ?_ _
        go_wp2_with fail
        go_ret
        exact ⟨v8, rfl, HO8.out, hS⟩
      exact AllReadyH.nil
    exact AllReadyH.nil
  exact AllReadyH.nil
set_option maxHeartbeats 4000000 in
theorem operand_n0 (vb : List UInt8) (ff : Bool) (n : Nat) (hn : Okn n) (tf : Bool) (tb : Int) (sg : Bool) (va : Value) (l : List Av) (T : Int) (nn : Nat) (hT : (T == 123) = false) (hi' : l[0]? = some (T, nn, 0, false)) (w : World) (ha : AR w va l) :
    Calls Tryz.prog 64 #[insV vb ff n tf tb sg, va, .int .i64 0] w (LPost w (cnt n) (fun _ => nn)) := by
  obtain ⟨g, cap, rfl, hg, hcap, hat⟩ := ha
  obtain ⟨h0, h1, h2, h3⟩ := hat 0 _ hi'
  have hlt : 0 < l.length := (List.getElem?_eq_some_iff.1 hi').1
  have HC := fun W => hid (lcount_any n hn W)
  have hcc : cnt n = 2 ∨ cnt n = 4 ∨ cnt n = 8 ∨ cnt n = 16 := by rcases hn.cases with ⟨_, _, h⟩ | ⟨_, _, h⟩ | ⟨_, _, h⟩ | ⟨_, _, h⟩ <;> omega
  have HR := fun g1 W h => hid (Repeat_says (cnt n) hcc g1 nn W h)
  generalize cnt n = c at *
  obtain ⟨m, hm⟩ : ∃ m, m = l.length := ⟨_, rfl⟩
  rw [← hm] at hlt hcap ⊢
  unfold insV
  generalize str vb = s
  simp only [] at h0 h1 h2 h3
  simp only [Nat.zero_mul, Nat.zero_add] at h0 h1 h2 h3
  clear hat hn hm hi' hcc h2 h3
  go_enter Tryz.func64, Tryz.ntmps64
  go_upto_region 6 with fail
  have hS : Below w.heap.size w (w.alloc (.cells #[.string s, .bool ff, .int .i64 n, .bool tf, .int .i64 tb, .bool sg] 50)).drew := ((Below.refl _ w).alloc (Nat.le_refl _) _).drew
  refine wp_region_held_drew (S := Below w.heap.size w) (by kernel_rfl) hS (fun _ => ?_)
  generalize (w.alloc (.cells #[.string s, .bool ff, .int .i64 n, .bool tf, .int .i64 tb, .bool sg] 50)).drew = W at *
  refine wpAnyH_take (oi := ⟨_, _, _, _, _, _⟩) (i := 0) (v := .slice (some ⟨g, 0, none⟩) m cap) rfl (by kernel_rfl) (by kernel_rfl) (by kernel_rfl) (fun _ _ _ h => h) (Or.inl ⟨by rfl, ?_⟩) (by assumption) ?_
  · (intro W hSw; have x1 := (hSw.cell (p := ⟨g, 1, none⟩) hg).trans h1; go_simp; try (with_reducible rfl))
  try simp only [Act.put, List.setIfInBounds_toArray, List.set_cons_zero, List.set_cons_succ]
  refine wpAnyH_take (oi := ⟨_, _, _, _, _, _⟩) (i := 1) (v := .int .i64 0) rfl (by kernel_rfl) (by kernel_rfl) (by kernel_rfl) (fun _ _ _ h => h) (Or.inl ⟨by rfl, ?_⟩) (by assumption) ?_
  · (intro W hSw; have x1 := (hSw.cell (p := ⟨g, 1, none⟩) hg).trans h1; go_simp; try (with_reducible rfl))
  try simp only [Act.put, List.setIfInBounds_toArray, List.set_cons_zero, List.set_cons_succ]
  refine wpAnyH_take (oi := ⟨_, _, _, _, _, _⟩) (i := 2) (v := .pointer (some ⟨g, 0, none⟩)) rfl (by kernel_rfl) (by kernel_rfl) (by kernel_rfl) (fun _ _ _ h => h) (Or.inl ⟨by rfl, ?_⟩) (by assumption) ?_
  · (intro W hSw; have x1 := (hSw.cell (p := ⟨g, 1, none⟩) hg).trans h1; go_simp; try (with_reducible rfl))
  try simp only [Act.put, List.setIfInBounds_toArray, List.set_cons_zero, List.set_cons_succ]
  refine wpAnyH_take (oi := ⟨_, _, _, _, _, _⟩) (i := 3) (v := .pointer (some ⟨g, 1, none⟩)) rfl (by kernel_rfl) (by kernel_rfl) (by kernel_rfl) (fun _ _ _ h => h) (Or.inl ⟨by rfl, ?_⟩) (by assumption) ?_
  · (intro W hSw; have x1 := (hSw.cell (p := ⟨g, 1, none⟩) hg).trans h1; go_simp; try (with_reducible rfl))
  try simp only [Act.put, List.setIfInBounds_toArray, List.set_cons_zero, List.set_cons_succ]
  refine wpAnyH_take (oi := ⟨_, _, _, _, _, _⟩) (i := 4) (v := .int .u64 (nn : Nat)) rfl (by kernel_rfl) (by kernel_rfl) (by kernel_rfl) (fun _ _ _ h => h) (Or.inl ⟨by rfl, ?_⟩) (by assumption) ?_
  · (intro W hSw; have x1 := (hSw.cell (p := ⟨g, 1, none⟩) hg).trans h1; go_simp; try (with_reducible rfl))
  try simp only [Act.put, List.setIfInBounds_toArray, List.set_cons_zero, List.set_cons_succ]
  refine wpAnyH_take (oi := ⟨_, _, _, _, _, _⟩) (i := 6) (v := .int .i64 n) rfl (by kernel_rfl) (by kernel_rfl) (by kernel_rfl) (fun _ _ _ h => h) (Or.inl ⟨by rfl, ?_⟩) (by assumption) ?_
  · (intro W hSw; have x1 := (hSw.cell (p := ⟨g, 1, none⟩) hg).trans h1; go_simp; try (with_reducible rfl))
  try simp only [Act.put, List.setIfInBounds_toArray, List.set_cons_zero, List.set_cons_succ]
  refine wpAnyH_ready (rs := [5, 7]) (by kernel_rfl) (by simp) ?_
  refine AllReadyH.cons (o := ⟨_, _, _, _, _, _⟩) rfl (fun K hK => ?_) ?_
  · go_simp
    have hq : (W.alloc (.cells #[.int .u64 (nn : Nat)] 22)).cell? ⟨W.heap.size, 0, none⟩ = some (.int .u64 (nn : Nat)) := (CA.new W _ 22).at (k := 0) rfl
    replace hS := hS.alloc hS.size (.cells #[.int .u64 (nn : Nat)] 22)
    generalize W.alloc (.cells #[.int .u64 (nn : Nat)] 22) = WB at *
    refine hK.out _ _ hS (fun _ => ?_)
    clear hK K
    try simp only [Act.put, List.setIfInBounds_toArray, List.set_cons_zero, List.set_cons_succ]
    refine wpAnyH_ready (rs := [7]) (by kernel_rfl) (by simp) ?_
    refine AllReadyH.cons (o := ⟨_, _, _, _, _, _⟩) rfl (fun K hK => ?_) ?_
    · go_simp
      go_at_call 52
      (with_reducible refine (HC _).out.mono ?_)
      rintro e w52 ⟨rfl, rfl⟩
      refine hK.out _ _ hS (fun _ => ?_)
      clear hK K
      try simp only [Act.put, List.setIfInBounds_toArray, List.set_cons_zero, List.set_cons_succ]
      refine wpAnyH_ready (rs := [8]) (by kernel_rfl) (by simp) ?_
      refine AllReadyH.cons (o := ⟨_, _, _, _, _, _⟩) rfl (fun K hK => ?_) ?_
      · go_simp
        go_at_call 101
        (with_reducible refine (HR W.heap.size WB hq).out.mono ?_)
        rintro e W9 ⟨v8, rfl, ho8, hb⟩
        have HO8 := hid (own_mono ho8 hS.size)
        replace hS := hS.trans (hb.mono hS.size)
        clear hb ho8
        refine hK.out _ _ hS (fun _ => ?_)
        clear hK K
        try simp only [Act.put, List.setIfInBounds_toArray, List.set_cons_zero, List.set_cons_succ]
        refine wpAnyH_take (oi := ⟨_, _, _, _, _, _⟩) (i := 9) (v := v8) rfl (by kernel_rfl) (by kernel_rfl) (by kernel_rfl) (fun _ _ _ h => h) (Or.inl ⟨by rfl, ?_⟩) (by assumption) ?_
        · (intro W hSw; have x1 := (hSw.cell (p := ⟨g, 1, none⟩) hg).trans h1; go_simp; try (with_reducible rfl))
        try simp only [Act.put, List.setIfInBounds_toArray, List.set_cons_zero, List.set_cons_succ]
        refine wpAnyH_done (by kernel_rfl) ?_ _
        go_wp2_with fail
        go_ret
        exact ⟨v8, rfl, HO8.out, hS⟩
      exact AllReadyH.nil
    exact AllReadyH.nil
  refine AllReadyH.cons (o := ⟨_, _, _, _, _, _⟩) rfl (fun K hK => ?_) ?_
  · go_simp
    go_at_call 52
    (with_reducible refine (HC _).out.mono ?_)
    rintro e w52 ⟨rfl, rfl⟩
    refine hK.out _ _ hS (fun _ => ?_)
    clear hK K
    try simp only [Act.put, List.setIfInBounds_toArray, List.set_cons_zero, List.set_cons_succ]
    refine wpAnyH_ready (rs := [5]) (by kernel_rfl) (by simp) ?_
    refine AllReadyH.cons (o := ⟨_, _, _, _, _, _⟩) rfl (fun K hK => ?_) ?_
    · go_simp
      have hq : (W.alloc (.cells #[.int .u64 (nn : Nat)] 22)).cell? ⟨W.heap.size, 0, none⟩ = some (.int .u64 (nn : Nat)) := (CA.new W _ 22).at (k := 0) rfl
      replace hS := hS.alloc hS.size (.cells #[.int .u64 (nn : Nat)] 22)
      generalize W.alloc (.cells #[.int .u64 (nn : Nat)] 22) = WB at *
      refine hK.out _ _ hS (fun _ => ?_)
      clear hK K
      try simp only [Act.put, List.setIfInBounds_toArray, List.set_cons_zero, List.set_cons_succ]
      refine wpAnyH_ready (rs := [8]) (by kernel_rfl) (by simp) ?_
      refine AllReadyH.cons (o := ⟨_, _, _, _, _, _⟩) rfl (fun K hK => ?_) ?_
      · go_simp
        go_at_call 101
        (with_reducible refine (HR W.heap.size WB hq).out.mono ?_)
        rintro e W9 ⟨v8, rfl, ho8, hb⟩
        have HO8 := hid (own_mono ho8 hS.size)
        replace hS := hS.trans (hb.mono hS.size)
        clear hb ho8
        refine hK.out _ _ hS (fun _ => ?_)
        clear hK K
        try simp only [Act.put, List.setIfInBounds_toArray, List.set_cons_zero, List.set_cons_succ]
        refine wpAnyH_take (oi := ⟨_, _, _, _, _, _⟩) (i := 9) (v := v8) rfl (by kernel_rfl) (by kernel_rfl) (by kernel_rfl) (fun _ _ _ h => h) (Or.inl ⟨by rfl, ?_⟩) (by assumption) ?_
        · (intro W hSw; have x1 := (hSw.cell (p := ⟨g, 1, none⟩) hg).trans h1; go_simp; try (with_reducible rfl))
        try simp only [Act.put, List.setIfInBounds_toArray, List.set_cons_zero, List.set_cons_succ]
        refine wpAnyH_done (by kernel_rfl) ?_ _
        go_wp2_with fail
        go_ret
        exact ⟨v8, rfl, HO8.out, hS⟩
      exact AllReadyH.nil
    exact AllReadyH.nil
  exact AllReadyH.nil
end Go.Proofs.YtlhakbkdlgejpaaGreatDoor
