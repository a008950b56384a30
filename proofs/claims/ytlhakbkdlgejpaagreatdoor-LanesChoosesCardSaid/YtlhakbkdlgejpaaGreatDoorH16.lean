/-
  LCProg: merged, what the law does not reach left out (each text says what it holds where it lies in wip). No condition.
-/
import Derived.Test.YtlhakbkdlgejpaaGreatDoorH14
import Derived.Test.YtlhakbkdlgejpaaGreatDoorH11
import Derived.Test.YtlhakbkdlgejpaaGreatDoorH12
import Derived.Test.YtlhakbkdlgejpaaGreatDoorH15
set_option linter.unusedSimpArgs false
set_option linter.unusedVariables false
set_option maxRecDepth 100000
namespace Go.Proofs.YtlhakbkdlgejpaaGreatDoor
open Go.RowKit
theorem EInv.skip {w W : World} {g2 n i : Nat} {F : Nat → Nat} (h : EInv w g2 n F i W) (h0 : F i = 0) : EInv w g2 n F (i + 1) W := by
  obtain ⟨h4, h5, h2, h6⟩ := h
  refine ⟨?_, h5, h2, h6⟩
  rw [fc_congr (g := fun j => if j < i then F j else 0) (fun j _ => by
    by_cases hji : j = i
    · subst hji; simp [h0]
    · by_cases hlt : j < i
      · simp [hlt, show j < i + 1 by omega]
      · simp [hlt, show ¬ j < i + 1 by omega])]
  exact h4
set_option maxHeartbeats 4000000 in
theorem picked_u (n m : Nat) (hn : n ≤ 32) (hm : m ≤ 16) (va vb : Value) (F G : Nat → Nat) (w : World) (ha : RowAt w va n F) (hb : RowAt w vb m G) :
    Calls Tryz.prog 66 #[va, vb] w (LPost w m (fun i => if G i < n then F (G i) else 0)) := by
  obtain ⟨i0, hi0, hz0, hz1, hz2⟩ := info_parts info22
  obtain ⟨R, hR⟩ : ∃ R : Nat → Nat, R = fun i => if G i < n then F (G i) else 0 := ⟨_, rfl⟩
  rw [← hR]
  have HR := hid (fun i : Nat => congrFun hR i)
  obtain ⟨ga, oa, ca, rfl, hga, hca, hata⟩ := ha
  obtain ⟨gb, ob, cb, rfl, hgb, hcb, hatb⟩ := hb
  have HA := hid hata
  have HB := hid hatb
  have hwn : IntKind.u64.wrap (n : Int) = (n : Int) := by rw [IntKind.wrap_u64]; omega
  clear hata hatb hR
  go_enter Tryz.func66, Tryz.ntmps66
  go_wp2_with (at_make; refine wpList_make_full _ rfl _ _ 40 rfl w.heap.size 22 i0 (.int .u64 0) 1 Tryz.underlying40 hi0 hz0 hz1 .i64 .i64 _ _ m rfl rfl rfl rfl (by rw [hz2]; omega) (by unfold maxLen; omega) (Nat.le_refl _) ?_; intro w3 hown3 hgrow3)
  have HS3 := hid (EInv.start (F := R) hown3 hgrow3)
  clear hown3 hgrow3
  go_loopw [13] (fun vi wr => ∃ i : Nat, i ≤ m ∧ vi = .int .i64 i ∧ Hid (EInv w w.heap.size m R i wr)) (fun vi _ => m - (intOf vi).toNat)
  case atStart => exact ⟨0, Nat.zero_le _, rfl, HS3⟩
  case round =>
    obtain ⟨i, hin, rfl, HI⟩ := hrel
    by_cases hlt : i < m
    · have hS := HI.out.2.1
      have k1 := (hS.cell (p := ⟨gb, ob + i, none⟩) hgb).trans (HB.out i hlt).1
      have hri := HR.out i
      by_cases hp : G i < n
      · have k2 := (hS.cell (p := ⟨ga, oa + G i, none⟩) hga).trans (HA.out (G i) hp).1
        rw [if_pos hp] at hri
        rw [← hri] at k2
        obtain ⟨z0, z1⟩ := HI.out.cells hlt
        have HN := hid HI.out.next
        clear hri HI HR HA HB hS
        generalize G i = p at *
        go_wp2
        go_roundw
        case rel => exact ⟨i + 1, hlt, rfl, HN⟩
        case measure => (simp [intOf]; omega)
      · rw [if_neg hp] at hri
        have HN := hid (HI.out.skip hri)
        clear hri HI HR HA HB hS
        generalize G i = p at *
        go_wp2
        go_roundw
        case rel => exact ⟨i + 1, hlt, rfl, HN⟩
        case measure => (simp [intOf]; omega)
    · obtain rfl : i = m := by omega
      have HE := hid (HI.out.end (Nat.le_refl _))
      go_wp2
      go_ret
      exact ⟨_, rfl, HE.out.1, HE.out.2⟩
set_option maxHeartbeats 4000000 in
theorem picked_i (n m : Nat) (hn : n ≤ 32) (hm : m ≤ 16) (va : Value) (gi ci : Nat) (F P : Nat → Nat) (w : World) (ha : RowAt w va n F) (hgi : gi < w.heap.size) (hP : ∀ i, i < m → w.cell? ⟨gi, i, none⟩ = some (.int .i64 (P i : Nat)) ∧ P i < n) :
    Calls Tryz.prog 65 #[va, .slice (some ⟨gi, 0, none⟩) m ci] w (LPost w m (fun i => F (P i))) := by
  obtain ⟨i0, hi0, hz0, hz1, hz2⟩ := info_parts info22
  obtain ⟨R, hR⟩ : ∃ R : Nat → Nat, R = fun i => F (P i) := ⟨_, rfl⟩
  rw [← hR]
  have HR := hid (fun i : Nat => congrFun hR i)
  obtain ⟨ga, oa, ca, rfl, hga, hca, hata⟩ := ha
  have HA := hid hata
  have HB := hid hP
  clear hata hP hR
  go_enter Tryz.func65, Tryz.ntmps65
  go_wp2_with (at_make; refine wpList_make_full _ rfl _ _ 40 rfl w.heap.size 22 i0 (.int .u64 0) 1 Tryz.underlying40 hi0 hz0 hz1 .i64 .i64 _ _ m rfl rfl rfl rfl (by rw [hz2]; omega) (by unfold maxLen; omega) (Nat.le_refl _) ?_; intro w3 hown3 hgrow3)
  have HS3 := hid (EInv.start (F := R) hown3 hgrow3)
  clear hown3 hgrow3
  go_loopw [13] (fun vi wr => ∃ i : Nat, i ≤ m ∧ vi = .int .i64 i ∧ Hid (EInv w w.heap.size m R i wr)) (fun vi _ => m - (intOf vi).toNat)
  case atStart => exact ⟨0, Nat.zero_le _, rfl, HS3⟩
  case round =>
    obtain ⟨i, hin, rfl, HI⟩ := hrel
    by_cases hlt : i < m
    · have hS := HI.out.2.1
      have hb := HB.out i hlt
      have k1 := (hS.cell (p := ⟨gi, i, none⟩) hgi).trans hb.1
      have hp := hb.2
      have hri := HR.out i
      have k2 := (hS.cell (p := ⟨ga, oa + P i, none⟩) hga).trans (HA.out (P i) hp).1
      have hri2 : F (P i) = R i := hri.symm
      rw [hri2] at k2
      obtain ⟨z0, z1⟩ := HI.out.cells hlt
      have HN := hid HI.out.next
      clear hri hri2 HI HR HA HB hS hb
      generalize P i = p at *
      go_wp2
      go_roundw
      case rel => exact ⟨i + 1, hlt, rfl, HN⟩
      case measure => (simp [intOf]; omega)
    · obtain rfl : i = m := by omega
      have HE := hid (HI.out.end (Nat.le_refl _))
      go_wp2
      go_ret
      exact ⟨_, rfl, HE.out.1, HE.out.2⟩
set_option maxHeartbeats 8000000 in
theorem vector_splat (ff : Bool) (fb : Int) (tf : Bool) (tb : Int) (sg : Bool) (vi va : Value) (c : Nat) (hc1 : 1 ≤ c) (F G : Nat → Nat) (w : World)
    (H0 : ∀ W, Below w.heap.size w W → Calls Tryz.prog 64 #[insV [115, 112, 108, 97, 116] ff fb tf tb sg, va, .int .i64 0] W (LPost W c F))
    (H1 : ∀ W, Below w.heap.size w W → Calls Tryz.prog 64 #[insV [115, 112, 108, 97, 116] ff fb tf tb sg, va, .int .i64 1] W (LPost W c G)) :
    Calls Tryz.prog 34 #[insV [115, 112, 108, 97, 116] ff fb tf tb sg, vi, va] w (LPost w c F) := by
  unfold insV at H0 H1 ⊢
  obtain ⟨s, hs⟩ : ∃ s, s = str [115, 112, 108, 97, 116] := ⟨_, rfl⟩
  rw [← hs] at H0 H1 ⊢
  have q0 : (s.toList == [115, 112, 108, 97, 116]) = true := by rw [hs, str_list]; decide
  have HH0 := fun W h => hid (H0 W h)
  have HH1 := fun W h => hid (H1 W h)
  clear H0 H1 hs
  go_enter Tryz.func34, Tryz.ntmps34
  go_upto_region 1 with fail
  have hS : Below w.heap.size w (w.alloc (.cells #[.string s, .bool ff, .int .i64 fb, .bool tf, .int .i64 tb, .bool sg] 50)).drew ∧ CA w.heap.size #[.string s, .bool ff, .int .i64 fb, .bool tf, .int .i64 tb, .bool sg] 50 (w.alloc (.cells #[.string s, .bool ff, .int .i64 fb, .bool tf, .int .i64 tb, .bool sg] 50)).drew := ⟨((Below.refl _ w).alloc (Nat.le_refl _) _).drew, (CA.new w _ 50).drew⟩
  refine wp_region_held_drew (S := fun W => Below w.heap.size w W ∧ CA w.heap.size #[.string s, .bool ff, .int .i64 fb, .bool tf, .int .i64 tb, .bool sg] 50 W) (by kernel_rfl) hS (fun _ => ?_)
  generalize (w.alloc (.cells #[.string s, .bool ff, .int .i64 fb, .bool tf, .int .i64 tb, .bool sg] 50)).drew = W at *
  refine wpAnyH_take (oi := ⟨_, _, _, _, _, _⟩) (i := 0) (v := .agg #[.string s, .bool ff, .int .i64 fb, .bool tf, .int .i64 tb, .bool sg]) rfl (by kernel_rfl) (by kernel_rfl) (by kernel_rfl) (fun _ _ _ h => h) (Or.inl ⟨by rfl, ?_⟩) (by assumption) ?_
  · (intro W hSw; have x0 := hSw.2.at (k := 0) (v := .string s) rfl; have x1 := hSw.2.at (k := 1) (v := .bool ff) rfl; have x2 := hSw.2.at (k := 2) (v := .int .i64 fb) rfl; have x3 := hSw.2.at (k := 3) (v := .bool tf) rfl; have x4 := hSw.2.at (k := 4) (v := .int .i64 tb) rfl; have x5 := hSw.2.at (k := 5) (v := .bool sg) rfl; go_simp; try (with_reducible rfl))
  try simp only [Act.put, List.setIfInBounds_toArray, List.set_cons_zero, List.set_cons_succ]
  refine wpAnyH_take (oi := ⟨_, _, _, _, _, _⟩) (i := 1) (v := va) rfl (by kernel_rfl) (by kernel_rfl) (by kernel_rfl) (fun _ _ _ h => h) (Or.inl ⟨by rfl, ?_⟩) (by assumption) ?_
  · (intro W hSw; have x0 := hSw.2.at (k := 0) (v := .string s) rfl; have x1 := hSw.2.at (k := 1) (v := .bool ff) rfl; have x2 := hSw.2.at (k := 2) (v := .int .i64 fb) rfl; have x3 := hSw.2.at (k := 3) (v := .bool tf) rfl; have x4 := hSw.2.at (k := 4) (v := .int .i64 tb) rfl; have x5 := hSw.2.at (k := 5) (v := .bool sg) rfl; go_simp; try (with_reducible rfl))
  try simp only [Act.put, List.setIfInBounds_toArray, List.set_cons_zero, List.set_cons_succ]
  refine wpAnyH_take (oi := ⟨_, _, _, _, _, _⟩) (i := 3) (v := .agg #[.string s, .bool ff, .int .i64 fb, .bool tf, .int .i64 tb, .bool sg]) rfl (by kernel_rfl) (by kernel_rfl) (by kernel_rfl) (fun _ _ _ h => h) (Or.inl ⟨by rfl, ?_⟩) (by assumption) ?_
  · (intro W hSw; have x0 := hSw.2.at (k := 0) (v := .string s) rfl; have x1 := hSw.2.at (k := 1) (v := .bool ff) rfl; have x2 := hSw.2.at (k := 2) (v := .int .i64 fb) rfl; have x3 := hSw.2.at (k := 3) (v := .bool tf) rfl; have x4 := hSw.2.at (k := 4) (v := .int .i64 tb) rfl; have x5 := hSw.2.at (k := 5) (v := .bool sg) rfl; go_simp; try (with_reducible rfl))
  try simp only [Act.put, List.setIfInBounds_toArray, List.set_cons_zero, List.set_cons_succ]
  refine wpAnyH_take (oi := ⟨_, _, _, _, _, _⟩) (i := 4) (v := va) rfl (by kernel_rfl) (by kernel_rfl) (by kernel_rfl) (fun _ _ _ h => h) (Or.inl ⟨by rfl, ?_⟩) (by assumption) ?_
  · (intro W hSw; have x0 := hSw.2.at (k := 0) (v := .string s) rfl; have x1 := hSw.2.at (k := 1) (v := .bool ff) rfl; have x2 := hSw.2.at (k := 2) (v := .int .i64 fb) rfl; have x3 := hSw.2.at (k := 3) (v := .bool tf) rfl; have x4 := hSw.2.at (k := 4) (v := .int .i64 tb) rfl; have x5 := hSw.2.at (k := 5) (v := .bool sg) rfl; go_simp; try (with_reducible rfl))
  try simp only [Act.put, List.setIfInBounds_toArray, List.set_cons_zero, List.set_cons_succ]
  refine wpAnyH_ready (rs := [2]) (by kernel_rfl) (by simp) ?_
  refine AllReadyH.cons (o := ⟨_, _, _, _, _, _⟩) rfl (fun K hK => ?_) ?_
  · go_simp
    go_at_call 64
    (with_reducible refine (HH0 _ hS.1).out.mono ?_)
    rintro e W1 ⟨v1, rfl, ho1, hb⟩
    have hlt0 : w.heap.size + 1 ≤ W.heap.size := hS.2.lt
    have HO1 := hid (own_mono ho1 hlt0)
    replace hS := And.intro (hS.1.trans (hb.mono hS.1.size)) (hS.2.call hb)
    have HB11 := hid (show w.heap.size + 1 ≤ W1.heap.size from hS.2.lt)
    clear hb ho1
    refine hK.out _ _ hS (fun _ => ?_)
    clear hK K
    try simp only [Act.put, List.setIfInBounds_toArray, List.set_cons_zero, List.set_cons_succ]
    refine wpAnyH_ready (rs := [5]) (by kernel_rfl) (by simp) ?_
    refine AllReadyH.cons (o := ⟨_, _, _, _, _, _⟩) rfl (fun K hK => ?_) ?_
    · go_simp
      go_at_call 64
      (with_reducible refine (HH1 _ hS.1).out.mono ?_)
      rintro e W2 ⟨v2, rfl, ho2, hb⟩
      replace hS := And.intro (hS.1.trans (hb.mono hS.1.size)) (hS.2.call hb)
      replace HO1 := hid (own_below HO1.out hb (Nat.le_refl _))
      have HO2 := hid ho2
      clear hb ho2
      refine hK.out _ _ hS (fun _ => ?_)
      clear hK K
      try simp only [Act.put, List.setIfInBounds_toArray, List.set_cons_zero, List.set_cons_succ]
      refine wpAnyH_take (oi := ⟨_, _, _, _, _, _⟩) (i := 6) (v := v1) rfl (by kernel_rfl) (by kernel_rfl) (by kernel_rfl) (fun _ _ _ h => h) (Or.inl ⟨by rfl, ?_⟩) (by assumption) ?_
      · (intro W hSw; have x0 := hSw.2.at (k := 0) (v := .string s) rfl; have x1 := hSw.2.at (k := 1) (v := .bool ff) rfl; have x2 := hSw.2.at (k := 2) (v := .int .i64 fb) rfl; have x3 := hSw.2.at (k := 3) (v := .bool tf) rfl; have x4 := hSw.2.at (k := 4) (v := .int .i64 tb) rfl; have x5 := hSw.2.at (k := 5) (v := .bool sg) rfl; go_simp; try (with_reducible rfl))
      try simp only [Act.put, List.setIfInBounds_toArray, List.set_cons_zero, List.set_cons_succ]
      refine wpAnyH_take (oi := ⟨_, _, _, _, _, _⟩) (i := 7) (v := v2) rfl (by kernel_rfl) (by kernel_rfl) (by kernel_rfl) (fun _ _ _ h => h) (Or.inl ⟨by rfl, ?_⟩) (by assumption) ?_
      · (intro W hSw; have x0 := hSw.2.at (k := 0) (v := .string s) rfl; have x1 := hSw.2.at (k := 1) (v := .bool ff) rfl; have x2 := hSw.2.at (k := 2) (v := .int .i64 fb) rfl; have x3 := hSw.2.at (k := 3) (v := .bool tf) rfl; have x4 := hSw.2.at (k := 4) (v := .int .i64 tb) rfl; have x5 := hSw.2.at (k := 5) (v := .bool sg) rfl; go_simp; try (with_reducible rfl))
      try simp only [Act.put, List.setIfInBounds_toArray, List.set_cons_zero, List.set_cons_succ]
      refine wpAnyH_done (by kernel_rfl) ?_ _
      have y0 := hS.2.at (k := 0) (v := .string s) rfl
      have y1 := hS.2.at (k := 1) (v := .bool ff) rfl
      have y2 := hS.2.at (k := 2) (v := .int .i64 fb) rfl
      have y3 := hS.2.at (k := 3) (v := .bool tf) rfl
      have y4 := hS.2.at (k := 4) (v := .int .i64 tb) rfl
      have y5 := hS.2.at (k := 5) (v := .bool sg) rfl
      have hsz : w.heap.size ≤ w.heap.size + 1 := Nat.le_succ _
      have HB2 := hid hS.1
      have HOO := hid (own_mono HO1.out hsz)
      clear HO1 HO2 HB11 hS HH0 HH1 hsz
      go_wp2
      go_ret
      exact ⟨_, rfl, HOO.out, HB2.out⟩
    exact AllReadyH.nil
  exact AllReadyH.nil
set_option maxHeartbeats 8000000 in
theorem vector_swiz (ff : Bool) (fb : Int) (tf : Bool) (tb : Int) (sg : Bool) (vi va : Value) (c : Nat) (hc1 : 1 ≤ c) (hc : c ≤ 16) (F G : Nat → Nat) (w : World)
    (H0 : ∀ W, Below w.heap.size w W → Calls Tryz.prog 64 #[insV [115, 119, 105, 122, 122, 108, 101] ff fb tf tb sg, va, .int .i64 0] W (LPost W c F))
    (H1 : ∀ W, Below w.heap.size w W → Calls Tryz.prog 64 #[insV [115, 119, 105, 122, 122, 108, 101] ff fb tf tb sg, va, .int .i64 1] W (LPost W c G)) :
    Calls Tryz.prog 34 #[insV [115, 119, 105, 122, 122, 108, 101] ff fb tf tb sg, vi, va] w (LPost w c (fun i => if G i < c then F (G i) else 0)) := by
  have HPK := fun va vb W h1 h2 => hid (picked_u c c (by omega) hc va vb F G W h1 h2)
  clear hc
  generalize (fun i => if G i < c then F (G i) else 0) = R at *
  unfold insV at H0 H1 ⊢
  obtain ⟨s, hs⟩ : ∃ s, s = str [115, 119, 105, 122, 122, 108, 101] := ⟨_, rfl⟩
  rw [← hs] at H0 H1 ⊢
  have q0 : (s.toList == [115, 112, 108, 97, 116]) = false := by rw [hs, str_list]; decide
  have q1 : (s.toList == [114, 101, 112, 108, 97, 99, 101, 95, 108, 97, 110, 101]) = false := by rw [hs, str_list]; decide
  have q2 : (s.toList == [115, 104, 117, 102, 102, 108, 101]) = false := by rw [hs, str_list]; decide
  have q3 : (s.toList == [115, 119, 105, 122, 122, 108, 101]) = true := by rw [hs, str_list]; decide
  have HH0 := fun W h => hid (H0 W h)
  have HH1 := fun W h => hid (H1 W h)
  clear H0 H1 hs
  go_enter Tryz.func34, Tryz.ntmps34
  go_upto_region 1 with fail
  have hS : Below w.heap.size w (w.alloc (.cells #[.string s, .bool ff, .int .i64 fb, .bool tf, .int .i64 tb, .bool sg] 50)).drew ∧ CA w.heap.size #[.string s, .bool ff, .int .i64 fb, .bool tf, .int .i64 tb, .bool sg] 50 (w.alloc (.cells #[.string s, .bool ff, .int .i64 fb, .bool tf, .int .i64 tb, .bool sg] 50)).drew := ⟨((Below.refl _ w).alloc (Nat.le_refl _) _).drew, (CA.new w _ 50).drew⟩
  refine wp_region_held_drew (S := fun W => Below w.heap.size w W ∧ CA w.heap.size #[.string s, .bool ff, .int .i64 fb, .bool tf, .int .i64 tb, .bool sg] 50 W) (by kernel_rfl) hS (fun _ => ?_)
  generalize (w.alloc (.cells #[.string s, .bool ff, .int .i64 fb, .bool tf, .int .i64 tb, .bool sg] 50)).drew = W at *
  refine wpAnyH_take (oi := ⟨_, _, _, _, _, _⟩) (i := 0) (v := .agg #[.string s, .bool ff, .int .i64 fb, .bool tf, .int .i64 tb, .bool sg]) rfl (by kernel_rfl) (by kernel_rfl) (by kernel_rfl) (fun _ _ _ h => h) (Or.inl ⟨by rfl, ?_⟩) (by assumption) ?_
  · (intro W hSw; have x0 := hSw.2.at (k := 0) (v := .string s) rfl; have x1 := hSw.2.at (k := 1) (v := .bool ff) rfl; have x2 := hSw.2.at (k := 2) (v := .int .i64 fb) rfl; have x3 := hSw.2.at (k := 3) (v := .bool tf) rfl; have x4 := hSw.2.at (k := 4) (v := .int .i64 tb) rfl; have x5 := hSw.2.at (k := 5) (v := .bool sg) rfl; go_simp; try (with_reducible rfl))
  try simp only [Act.put, List.setIfInBounds_toArray, List.set_cons_zero, List.set_cons_succ]
  refine wpAnyH_take (oi := ⟨_, _, _, _, _, _⟩) (i := 1) (v := va) rfl (by kernel_rfl) (by kernel_rfl) (by kernel_rfl) (fun _ _ _ h => h) (Or.inl ⟨by rfl, ?_⟩) (by assumption) ?_
  · (intro W hSw; have x0 := hSw.2.at (k := 0) (v := .string s) rfl; have x1 := hSw.2.at (k := 1) (v := .bool ff) rfl; have x2 := hSw.2.at (k := 2) (v := .int .i64 fb) rfl; have x3 := hSw.2.at (k := 3) (v := .bool tf) rfl; have x4 := hSw.2.at (k := 4) (v := .int .i64 tb) rfl; have x5 := hSw.2.at (k := 5) (v := .bool sg) rfl; go_simp; try (with_reducible rfl))
  try simp only [Act.put, List.setIfInBounds_toArray, List.set_cons_zero, List.set_cons_succ]
  refine wpAnyH_take (oi := ⟨_, _, _, _, _, _⟩) (i := 3) (v := .agg #[.string s, .bool ff, .int .i64 fb, .bool tf, .int .i64 tb, .bool sg]) rfl (by kernel_rfl) (by kernel_rfl) (by kernel_rfl) (fun _ _ _ h => h) (Or.inl ⟨by rfl, ?_⟩) (by assumption) ?_
  · (intro W hSw; have x0 := hSw.2.at (k := 0) (v := .string s) rfl; have x1 := hSw.2.at (k := 1) (v := .bool ff) rfl; have x2 := hSw.2.at (k := 2) (v := .int .i64 fb) rfl; have x3 := hSw.2.at (k := 3) (v := .bool tf) rfl; have x4 := hSw.2.at (k := 4) (v := .int .i64 tb) rfl; have x5 := hSw.2.at (k := 5) (v := .bool sg) rfl; go_simp; try (with_reducible rfl))
  try simp only [Act.put, List.setIfInBounds_toArray, List.set_cons_zero, List.set_cons_succ]
  refine wpAnyH_take (oi := ⟨_, _, _, _, _, _⟩) (i := 4) (v := va) rfl (by kernel_rfl) (by kernel_rfl) (by kernel_rfl) (fun _ _ _ h => h) (Or.inl ⟨by rfl, ?_⟩) (by assumption) ?_
  · (intro W hSw; have x0 := hSw.2.at (k := 0) (v := .string s) rfl; have x1 := hSw.2.at (k := 1) (v := .bool ff) rfl; have x2 := hSw.2.at (k := 2) (v := .int .i64 fb) rfl; have x3 := hSw.2.at (k := 3) (v := .bool tf) rfl; have x4 := hSw.2.at (k := 4) (v := .int .i64 tb) rfl; have x5 := hSw.2.at (k := 5) (v := .bool sg) rfl; go_simp; try (with_reducible rfl))
  try simp only [Act.put, List.setIfInBounds_toArray, List.set_cons_zero, List.set_cons_succ]
  refine wpAnyH_ready (rs := [2]) (by kernel_rfl) (by simp) ?_
  refine AllReadyH.cons (o := ⟨_, _, _, _, _, _⟩) rfl (fun K hK => ?_) ?_
  · go_simp
    go_at_call 64
    (with_reducible refine (HH0 _ hS.1).out.mono ?_)
    rintro e W1 ⟨v1, rfl, ho1, hb⟩
    have hlt0 : w.heap.size + 1 ≤ W.heap.size := hS.2.lt
    have HO1 := hid (own_mono ho1 hlt0)
    replace hS := And.intro (hS.1.trans (hb.mono hS.1.size)) (hS.2.call hb)
    have HB11 := hid (show w.heap.size + 1 ≤ W1.heap.size from hS.2.lt)
    clear hb ho1
    refine hK.out _ _ hS (fun _ => ?_)
    clear hK K
    try simp only [Act.put, List.setIfInBounds_toArray, List.set_cons_zero, List.set_cons_succ]
    refine wpAnyH_ready (rs := [5]) (by kernel_rfl) (by simp) ?_
    refine AllReadyH.cons (o := ⟨_, _, _, _, _, _⟩) rfl (fun K hK => ?_) ?_
    · go_simp
      go_at_call 64
      (with_reducible refine (HH1 _ hS.1).out.mono ?_)
      rintro e W2 ⟨v2, rfl, ho2, hb⟩
      replace hS := And.intro (hS.1.trans (hb.mono hS.1.size)) (hS.2.call hb)
      replace HO1 := hid (own_below HO1.out hb (Nat.le_refl _))
      have HO2 := hid ho2
      clear hb ho2
      refine hK.out _ _ hS (fun _ => ?_)
      clear hK K
      try simp only [Act.put, List.setIfInBounds_toArray, List.set_cons_zero, List.set_cons_succ]
      refine wpAnyH_take (oi := ⟨_, _, _, _, _, _⟩) (i := 6) (v := v1) rfl (by kernel_rfl) (by kernel_rfl) (by kernel_rfl) (fun _ _ _ h => h) (Or.inl ⟨by rfl, ?_⟩) (by assumption) ?_
      · (intro W hSw; have x0 := hSw.2.at (k := 0) (v := .string s) rfl; have x1 := hSw.2.at (k := 1) (v := .bool ff) rfl; have x2 := hSw.2.at (k := 2) (v := .int .i64 fb) rfl; have x3 := hSw.2.at (k := 3) (v := .bool tf) rfl; have x4 := hSw.2.at (k := 4) (v := .int .i64 tb) rfl; have x5 := hSw.2.at (k := 5) (v := .bool sg) rfl; go_simp; try (with_reducible rfl))
      try simp only [Act.put, List.setIfInBounds_toArray, List.set_cons_zero, List.set_cons_succ]
      refine wpAnyH_take (oi := ⟨_, _, _, _, _, _⟩) (i := 7) (v := v2) rfl (by kernel_rfl) (by kernel_rfl) (by kernel_rfl) (fun _ _ _ h => h) (Or.inl ⟨by rfl, ?_⟩) (by assumption) ?_
      · (intro W hSw; have x0 := hSw.2.at (k := 0) (v := .string s) rfl; have x1 := hSw.2.at (k := 1) (v := .bool ff) rfl; have x2 := hSw.2.at (k := 2) (v := .int .i64 fb) rfl; have x3 := hSw.2.at (k := 3) (v := .bool tf) rfl; have x4 := hSw.2.at (k := 4) (v := .int .i64 tb) rfl; have x5 := hSw.2.at (k := 5) (v := .bool sg) rfl; go_simp; try (with_reducible rfl))
      try simp only [Act.put, List.setIfInBounds_toArray, List.set_cons_zero, List.set_cons_succ]
      refine wpAnyH_done (by kernel_rfl) ?_ _
      have y0 := hS.2.at (k := 0) (v := .string s) rfl
      have y1 := hS.2.at (k := 1) (v := .bool ff) rfl
      have y2 := hS.2.at (k := 2) (v := .int .i64 fb) rfl
      have y3 := hS.2.at (k := 3) (v := .bool tf) rfl
      have y4 := hS.2.at (k := 4) (v := .int .i64 tb) rfl
      have y5 := hS.2.at (k := 5) (v := .bool sg) rfl
      have HR1 := hid (RowAt.of_own HO1.out hc1)
      have HR2 := hid (RowAt.of_own HO2.out hc1)
      have HB2 := hid hS.1
      clear HO1 HO2 HB11 hS HH0 HH1
      go_wp2_with (go_at_call 66; (with_reducible refine (HPK _ _ _ HR1.out HR2.out).out.mono ?_); rintro e W4 ⟨v4, rfl, ho4, hb4⟩)
      go_ret
      exact ⟨_, rfl, own_mono ho4 HB2.out.size, HB2.out.trans (hb4.mono HB2.out.size)⟩
    exact AllReadyH.nil
  exact AllReadyH.nil
set_option maxHeartbeats 8000000 in
theorem vector_shuf (ff : Bool) (fb : Int) (tf : Bool) (tb : Int) (sg : Bool) (gi ci : Nat) (va : Value) (F G : Nat → Nat) (P : Nat → Nat) (w : World)
    (H0 : ∀ W, Below w.heap.size w W → Calls Tryz.prog 64 #[insV [115, 104, 117, 102, 102, 108, 101] ff fb tf tb sg, va, .int .i64 0] W (LPost W 16 F))
    (H1 : ∀ W, Below w.heap.size w W → Calls Tryz.prog 64 #[insV [115, 104, 117, 102, 102, 108, 101] ff fb tf tb sg, va, .int .i64 1] W (LPost W 16 G)) (hgi : gi < w.heap.size) (hP : ∀ i, i < 16 → w.cell? ⟨gi, i, none⟩ = some (.int .i64 (P i : Nat)) ∧ P i < 32) :
    Calls Tryz.prog 34 #[insV [115, 104, 117, 102, 102, 108, 101] ff fb tf tb sg, .slice (some ⟨gi, 0, none⟩) 16 ci, va] w (LPost w 16 (fun i => if P i < 16 then F (P i) else G (P i - 16))) := by
  obtain ⟨i0, hi0, hz0, hz1, hz2⟩ := info_parts info22
  have HAP : Hid (fc 16 F ++ fc 16 G = fc 32 (fun i => if i < 16 then F i else G (i - 16))) := hid (fc_append 16 16 F G)
  have HPK : ∀ v W, Below w.heap.size w W → RowAt W v 32 (fun i => if i < 16 then F i else G (i - 16)) → Hid (Calls Tryz.prog 65 #[v, .slice (some ⟨gi, 0, none⟩) 16 ci] W (LPost W 16 (fun i => if P i < 16 then F (P i) else G (P i - 16)))) := fun v W hb hr => hid (picked_i 32 16 (by decide) (by decide) v gi ci _ P W hr (Nat.lt_of_lt_of_le hgi hb.size) (fun i hi => ⟨(hb.cell (p := ⟨gi, i, none⟩) hgi).trans (hP i hi).1, (hP i hi).2⟩))
  clear hP hgi
  generalize (fun i => if P i < 16 then F (P i) else G (P i - 16)) = R at *
  unfold insV at H0 H1 ⊢
  obtain ⟨s, hs⟩ : ∃ s, s = str [115, 104, 117, 102, 102, 108, 101] := ⟨_, rfl⟩
  rw [← hs] at H0 H1 ⊢
  have q0 : (s.toList == [115, 112, 108, 97, 116]) = false := by rw [hs, str_list]; decide
  have q1 : (s.toList == [114, 101, 112, 108, 97, 99, 101, 95, 108, 97, 110, 101]) = false := by rw [hs, str_list]; decide
  have q2 : (s.toList == [115, 104, 117, 102, 102, 108, 101]) = true := by rw [hs, str_list]; decide
  have HH0 := fun W h => hid (H0 W h)
  have HH1 := fun W h => hid (H1 W h)
  clear H0 H1 hs
  go_enter Tryz.func34, Tryz.ntmps34
  go_upto_region 1 with fail
  have hS : Below w.heap.size w (w.alloc (.cells #[.string s, .bool ff, .int .i64 fb, .bool tf, .int .i64 tb, .bool sg] 50)).drew ∧ CA w.heap.size #[.string s, .bool ff, .int .i64 fb, .bool tf, .int .i64 tb, .bool sg] 50 (w.alloc (.cells #[.string s, .bool ff, .int .i64 fb, .bool tf, .int .i64 tb, .bool sg] 50)).drew := ⟨((Below.refl _ w).alloc (Nat.le_refl _) _).drew, (CA.new w _ 50).drew⟩
  refine wp_region_held_drew (S := fun W => Below w.heap.size w W ∧ CA w.heap.size #[.string s, .bool ff, .int .i64 fb, .bool tf, .int .i64 tb, .bool sg] 50 W) (by kernel_rfl) hS (fun _ => ?_)
  generalize (w.alloc (.cells #[.string s, .bool ff, .int .i64 fb, .bool tf, .int .i64 tb, .bool sg] 50)).drew = W at *
  refine wpAnyH_take (oi := ⟨_, _, _, _, _, _⟩) (i := 0) (v := .agg #[.string s, .bool ff, .int .i64 fb, .bool tf, .int .i64 tb, .bool sg]) rfl (by kernel_rfl) (by kernel_rfl) (by kernel_rfl) (fun _ _ _ h => h) (Or.inl ⟨by rfl, ?_⟩) (by assumption) ?_
  · (intro W hSw; have x0 := hSw.2.at (k := 0) (v := .string s) rfl; have x1 := hSw.2.at (k := 1) (v := .bool ff) rfl; have x2 := hSw.2.at (k := 2) (v := .int .i64 fb) rfl; have x3 := hSw.2.at (k := 3) (v := .bool tf) rfl; have x4 := hSw.2.at (k := 4) (v := .int .i64 tb) rfl; have x5 := hSw.2.at (k := 5) (v := .bool sg) rfl; go_simp; try (with_reducible rfl))
  try simp only [Act.put, List.setIfInBounds_toArray, List.set_cons_zero, List.set_cons_succ]
  refine wpAnyH_take (oi := ⟨_, _, _, _, _, _⟩) (i := 1) (v := va) rfl (by kernel_rfl) (by kernel_rfl) (by kernel_rfl) (fun _ _ _ h => h) (Or.inl ⟨by rfl, ?_⟩) (by assumption) ?_
  · (intro W hSw; have x0 := hSw.2.at (k := 0) (v := .string s) rfl; have x1 := hSw.2.at (k := 1) (v := .bool ff) rfl; have x2 := hSw.2.at (k := 2) (v := .int .i64 fb) rfl; have x3 := hSw.2.at (k := 3) (v := .bool tf) rfl; have x4 := hSw.2.at (k := 4) (v := .int .i64 tb) rfl; have x5 := hSw.2.at (k := 5) (v := .bool sg) rfl; go_simp; try (with_reducible rfl))
  try simp only [Act.put, List.setIfInBounds_toArray, List.set_cons_zero, List.set_cons_succ]
  refine wpAnyH_take (oi := ⟨_, _, _, _, _, _⟩) (i := 3) (v := .agg #[.string s, .bool ff, .int .i64 fb, .bool tf, .int .i64 tb, .bool sg]) rfl (by kernel_rfl) (by kernel_rfl) (by kernel_rfl) (fun _ _ _ h => h) (Or.inl ⟨by rfl, ?_⟩) (by assumption) ?_
  · (intro W hSw; have x0 := hSw.2.at (k := 0) (v := .string s) rfl; have x1 := hSw.2.at (k := 1) (v := .bool ff) rfl; have x2 := hSw.2.at (k := 2) (v := .int .i64 fb) rfl; have x3 := hSw.2.at (k := 3) (v := .bool tf) rfl; have x4 := hSw.2.at (k := 4) (v := .int .i64 tb) rfl; have x5 := hSw.2.at (k := 5) (v := .bool sg) rfl; go_simp; try (with_reducible rfl))
  try simp only [Act.put, List.setIfInBounds_toArray, List.set_cons_zero, List.set_cons_succ]
  refine wpAnyH_take (oi := ⟨_, _, _, _, _, _⟩) (i := 4) (v := va) rfl (by kernel_rfl) (by kernel_rfl) (by kernel_rfl) (fun _ _ _ h => h) (Or.inl ⟨by rfl, ?_⟩) (by assumption) ?_
  · (intro W hSw; have x0 := hSw.2.at (k := 0) (v := .string s) rfl; have x1 := hSw.2.at (k := 1) (v := .bool ff) rfl; have x2 := hSw.2.at (k := 2) (v := .int .i64 fb) rfl; have x3 := hSw.2.at (k := 3) (v := .bool tf) rfl; have x4 := hSw.2.at (k := 4) (v := .int .i64 tb) rfl; have x5 := hSw.2.at (k := 5) (v := .bool sg) rfl; go_simp; try (with_reducible rfl))
  try simp only [Act.put, List.setIfInBounds_toArray, List.set_cons_zero, List.set_cons_succ]
  refine wpAnyH_ready (rs := [2]) (by kernel_rfl) (by simp) ?_
  refine AllReadyH.cons (o := ⟨_, _, _, _, _, _⟩) rfl (fun K hK => ?_) ?_
  · go_simp
    go_at_call 64
    (with_reducible refine (HH0 _ hS.1).out.mono ?_)
    rintro e W1 ⟨v1, rfl, ho1, hb⟩
    have hlt0 : w.heap.size + 1 ≤ W.heap.size := hS.2.lt
    have HO1 := hid (own_mono ho1 hlt0)
    replace hS := And.intro (hS.1.trans (hb.mono hS.1.size)) (hS.2.call hb)
    have HB11 := hid (show w.heap.size + 1 ≤ W1.heap.size from hS.2.lt)
    clear hb ho1
    refine hK.out _ _ hS (fun _ => ?_)
    clear hK K
    try simp only [Act.put, List.setIfInBounds_toArray, List.set_cons_zero, List.set_cons_succ]
    refine wpAnyH_ready (rs := [5]) (by kernel_rfl) (by simp) ?_
    refine AllReadyH.cons (o := ⟨_, _, _, _, _, _⟩) rfl (fun K hK => ?_) ?_
    · go_simp
      go_at_call 64
      (with_reducible refine (HH1 _ hS.1).out.mono ?_)
      rintro e W2 ⟨v2, rfl, ho2, hb⟩
      replace hS := And.intro (hS.1.trans (hb.mono hS.1.size)) (hS.2.call hb)
      replace HO1 := hid (own_below HO1.out hb (Nat.le_refl _))
      have HO2 := hid ho2
      clear hb ho2
      refine hK.out _ _ hS (fun _ => ?_)
      clear hK K
      try simp only [Act.put, List.setIfInBounds_toArray, List.set_cons_zero, List.set_cons_succ]
      refine wpAnyH_take (oi := ⟨_, _, _, _, _, _⟩) (i := 6) (v := v1) rfl (by kernel_rfl) (by kernel_rfl) (by kernel_rfl) (fun _ _ _ h => h) (Or.inl ⟨by rfl, ?_⟩) (by assumption) ?_
      · (intro W hSw; have x0 := hSw.2.at (k := 0) (v := .string s) rfl; have x1 := hSw.2.at (k := 1) (v := .bool ff) rfl; have x2 := hSw.2.at (k := 2) (v := .int .i64 fb) rfl; have x3 := hSw.2.at (k := 3) (v := .bool tf) rfl; have x4 := hSw.2.at (k := 4) (v := .int .i64 tb) rfl; have x5 := hSw.2.at (k := 5) (v := .bool sg) rfl; go_simp; try (with_reducible rfl))
      try simp only [Act.put, List.setIfInBounds_toArray, List.set_cons_zero, List.set_cons_succ]
      refine wpAnyH_take (oi := ⟨_, _, _, _, _, _⟩) (i := 7) (v := v2) rfl (by kernel_rfl) (by kernel_rfl) (by kernel_rfl) (fun _ _ _ h => h) (Or.inl ⟨by rfl, ?_⟩) (by assumption) ?_
      · (intro W hSw; have x0 := hSw.2.at (k := 0) (v := .string s) rfl; have x1 := hSw.2.at (k := 1) (v := .bool ff) rfl; have x2 := hSw.2.at (k := 2) (v := .int .i64 fb) rfl; have x3 := hSw.2.at (k := 3) (v := .bool tf) rfl; have x4 := hSw.2.at (k := 4) (v := .int .i64 tb) rfl; have x5 := hSw.2.at (k := 5) (v := .bool sg) rfl; go_simp; try (with_reducible rfl))
      try simp only [Act.put, List.setIfInBounds_toArray, List.set_cons_zero, List.set_cons_succ]
      refine wpAnyH_done (by kernel_rfl) ?_ _
      have y0 := hS.2.at (k := 0) (v := .string s) rfl
      have y1 := hS.2.at (k := 1) (v := .bool ff) rfl
      have y2 := hS.2.at (k := 2) (v := .int .i64 fb) rfl
      have y3 := hS.2.at (k := 3) (v := .bool tf) rfl
      have y4 := hS.2.at (k := 4) (v := .int .i64 tb) rfl
      have y5 := hS.2.at (k := 5) (v := .bool sg) rfl
      obtain ⟨g1, cap1, rfl⟩ := owned_at HO1.out (by decide)
      obtain ⟨g2, cap2, rfl⟩ := owned_at HO2.out (by decide)
      have HNW := hid (show ∀ j u, (fc 16 G)[j]? = some u → W2.cell? ((⟨g2, 0, none⟩ : Addr).add j) = some u by
        intro j u hj
        have hjc : j < 16 := by have := (List.getElem?_eq_some_iff.1 hj).1; rw [fc_length] at this; exact this
        rw [add_plain, Nat.zero_add, HO2.out.cellAt j (by omega), hj])
      have HLB := hid (show w.heap.size + 1 ≤ W2.heap.size from Nat.succ_le_of_lt hS.2.lt)
      have HB2 := hid hS.1
      clear HO2 HB11 hS HH0 HH1
      go_wp2_with (first
        | (refine wpList_append_own _ rfl (.tmp 36) (.tmp 37) 40 rfl (w.heap.size + 1) 22 i0 (.int .u64 0) 1 8 Tryz.underlying40 hi0 hz0 hz1 hz2 rfl (by decide) (.slice (some ⟨g1, 0, none⟩) 16 cap1) 16 (fc 16 F) rfl HO1.out ⟨g2, 0, none⟩ 16 cap2 (fc 16 G) rfl (by rw [fc_length]) HNW.out (fc_one 16 G) (by unfold maxLen; omega) (by omega) HLB.out ?_; intro v5 w5 ho5 hg5 _; rw [HAP.out] at ho5; have HR5 := hid (RowAt.of_own ho5 (by decide)); have HB5 := hid (HB2.out.trans (((Below.refl _ W2).grown hg5 HLB.out (fun k hk => (HO1.out.lt k hk).1)).mono (Nat.le_succ _))); clear ho5 hg5)
        | (go_at_call 65; (with_reducible refine (HPK _ _ HB5.out HR5.out).out.mono ?_); rintro e W6 ⟨v6, rfl, ho6, hb6⟩))
      go_ret
      exact ⟨_, rfl, own_mono ho6 HB5.out.size, HB5.out.trans (hb6.mono HB5.out.size)⟩
    exact AllReadyH.nil
  exact AllReadyH.nil
end Go.Proofs.YtlhakbkdlgejpaaGreatDoor
