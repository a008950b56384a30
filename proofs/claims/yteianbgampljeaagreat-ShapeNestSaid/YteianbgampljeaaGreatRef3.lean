/-
  The contract of the document's own Count. Condition: there are fewer instructions than integers.
-/
import Derived.Test.YteianbgampljeaaGreatRef2
set_option linter.unusedSimpArgs false
set_option linter.unusedVariables false
set_option maxRecDepth 100000
namespace Go.Proofs.YteianbgampljeaaGreat
open Go.RowKit

set_option maxHeartbeats 8000000 in
theorem RCount_says (B : Nat) : ∀ (N : Nat) (f : Fo), f.cnt < N ∧ f.cnt < 9223372036854775806 → ∀ (v : Value) (w : World), B ≤ w.heap.size → SA B w v f →
    Calls Tryz.prog 17 #[v] w fun e w' => e = .returned (.int .i64 (f.cnt : Nat)) ∧ Below w.heap.size w w' := by
  intro N
  induction N with
  | zero => intro f h; omega
  | succ N ih =>
    intro f hf v w hB hs
    obtain ⟨p, c, g0, o0, rfl, hp, hfa⟩ := hs
    have hcl := nst_cnt f
    obtain ⟨m, hm⟩ : ∃ m, m = f.len := ⟨_, rfl⟩
    rw [← hm] at hp ⊢
    have HIH := hid ih
    have HP := hid hp
    have HBB := hid hB
    have hm62 : (m : Int) < 9223372036854775807 := by omega
    obtain ⟨R, hR⟩ : ∃ R, R = f.cnt := ⟨_, rfl⟩
    rw [← hR]
    have hR62 : R < 9223372036854775806 := by omega
    have HR6 := hid hR62
    have HS : Hid (0 + f.len = m ∧ f.cnt < N + 1 ∧ FA B w f g0 (o0 + 0 * 9) ∧ R = 0 + f.cnt ∧ f.cnt < 9223372036854775806 ∧ Below w.heap.size w w) := ⟨by rw [hm]; omega, hf.1, by simpa using hfa, by omega, hf.2, Below.refl _ _⟩
    clear ih hp hR hm hfa hf hcl hR62 hB
    go_enter Tryz.func17, Tryz.ntmps17
    go_wp2
    go_loopw [3, 4] (fun vn vi wr => ∃ (i : Nat) (fi : Fo) (n : Nat), i ≤ m ∧ vi = .int .i64 i ∧ vn = .int .i64 n ∧ Hid (i + fi.len = m ∧ fi.cnt < N + 1 ∧ FA B w fi g0 (o0 + i * 9) ∧ R = n + fi.cnt ∧ fi.cnt < 9223372036854775806 ∧ Below w.heap.size w wr)) (fun _ vi _ => m - (intOf vi).toNat)
    case atStart => exact ⟨0, f, 0, Nat.zero_le _, rfl, rfl, HS⟩
    case round =>
      obtain ⟨i, fi, n, him, rfl, rfl, HI⟩ := hrel
      cases fi with
      | nil =>
        have hi : i = m := HI.out.1
        subst hi
        have HE : Hid (R = n) := by have := HI.out.2.2.2.1; simp only [Fo.cnt] at this; (show R = n); omega
        have HW := hid HI.out.2.2.2.2.2
        go_wp2
        go_ret
        exact ⟨by rw [HE.out]; rfl, HW.out⟩
      | cons op a b nn h l ot body els rest =>
        obtain ⟨hg, ⟨vl, vb, ve, x0, x1, x2, x3, x4, x5, x6, x7, x8, hl, hbo, hel⟩, hrest⟩ := HI.out.2.2.1
        have hlt : i < m := by have := HI.out.1; simp only [Fo.len] at this; omega
        obtain rfl := HP.out (by omega)
        have hcn := HI.out.2.1
        simp only [Fo.cnt] at hcn
        have h62 := HI.out.2.2.2.2.1
        simp only [Fo.cnt] at h62
        have HBO := hid hbo
        have HEL := hid hel
        have KB := fun (W : World) (hW : Below w.heap.size w W) => hid (HIH.out body ⟨by omega, by omega⟩ vb W (Nat.le_trans HBB.out hW.size) (SA.below HBO.out (hW.mono HBB.out)))
        have KE := fun (W : World) (hW : Below w.heap.size w W) => hid (HIH.out els ⟨by omega, by omega⟩ ve W (Nat.le_trans HBB.out hW.size) (SA.below HEL.out (hW.mono HBB.out)))
        have hR := HI.out.2.2.2.1
        simp only [Fo.cnt] at hR
        have HR := hid hR
        have HLE := hid (show i + 1 + rest.len = m ∧ rest.cnt < N + 1 ∧ rest.cnt < 9223372036854775806 by have h1 := HI.out.1; simp only [Fo.len] at h1; omega)
        have HRS := hid (show FA B w rest g0 (o0 + (i + 1) * 9) by (have h9 : o0 + (i + 1) * 9 = o0 + i * 9 + 9 := by omega); rw [h9]; exact hrest)
        have HGW := hid (Nat.lt_of_lt_of_le hg HBB.out)
        have hS0 := HI.out.2.2.2.2.2
        obtain ⟨x, hx⟩ : ∃ x, x = body.cnt := ⟨_, rfl⟩
        obtain ⟨y, hy⟩ : ∃ y, y = els.cnt := ⟨_, rfl⟩
        rw [← hx, ← hy] at HR hR
        rw [← hx] at KB
        rw [← hy] at KE
        obtain ⟨s1, hw1, e1⟩ : ∃ s1 : Nat, wrap64 (1 + (x : Int)) = (s1 : Int) ∧ s1 = 1 + x := ⟨1 + x, by unfold wrap64; have := HR6.out; omega, rfl⟩
        obtain ⟨s2, hw2, e2⟩ : ∃ s2 : Nat, wrap64 ((s1 : Int) + (y : Int)) = (s2 : Int) ∧ s2 = s1 + y := ⟨s1 + y, by unfold wrap64; have := HR6.out; omega, rfl⟩
        obtain ⟨s3, hw3, e3⟩ : ∃ s3 : Nat, wrap64 ((n : Int) + (s2 : Int)) = (s3 : Int) ∧ s3 = n + s2 := ⟨n + s2, by unfold wrap64; have := HR6.out; omega, rfl⟩
        have HE3 := hid (show s3 = n + (1 + x + y) by omega)
        have k1 : IntKind.i64.wrap (1 + (x : Int)) = (s1 : Int) := by rw [IntKind.wrap_i64]; have := HR6.out; omega
        have k2 : IntKind.i64.wrap ((s1 : Int) + (y : Int)) = (s2 : Int) := by rw [IntKind.wrap_i64]; have := HR6.out; omega
        have k3 : IntKind.i64.wrap ((n : Int) + (s2 : Int)) = (s3 : Int) := by rw [IntKind.wrap_i64]; have := HR6.out; omega
        clear e1 e2 e3 hw1 hw2 hw3
        clear hbo hel hrest HI hg hcn hl hR hx hy x0 x1 x2 x3 x4 x5 x8 h62
        go_upto_region 5 with fail
        have hS : Below w.heap.size w wr.drew := hS0.drew
        clear hS0
        refine wp_region_held_drew (S := fun W => Below w.heap.size w W) (by kernel_rfl) hS (fun _ => ?_)
        generalize wr.drew = W at *
        refine wpAnyH_take (oi := ⟨_, _, _, _, _, _⟩) (i := 0) (v := .int .i64 (n : Nat)) rfl (by kernel_rfl) (by kernel_rfl) (by kernel_rfl) (fun _ _ _ h => h) (Or.inl ⟨by rfl, ?_⟩) (by assumption) ?_
        · (intro W hSw; have z6 := (hSw.cell (p := ⟨g0, o0 + i * 9 + 6, none⟩) HGW.out).trans x6; have z7 := (hSw.cell (p := ⟨g0, o0 + i * 9 + 7, none⟩) HGW.out).trans x7; go_simp; try (with_reducible rfl))
        try simp only [Act.put, List.setIfInBounds_toArray, List.set_cons_zero, List.set_cons_succ]
        refine wpAnyH_take (oi := ⟨_, _, _, _, _, _⟩) (i := 1) (v := .slice (some ⟨g0, o0, none⟩) m c) rfl (by kernel_rfl) (by kernel_rfl) (by kernel_rfl) (fun _ _ _ h => h) (Or.inl ⟨by rfl, ?_⟩) (by assumption) ?_
        · (intro W hSw; have z6 := (hSw.cell (p := ⟨g0, o0 + i * 9 + 6, none⟩) HGW.out).trans x6; have z7 := (hSw.cell (p := ⟨g0, o0 + i * 9 + 7, none⟩) HGW.out).trans x7; go_simp; try (with_reducible rfl))
        try simp only [Act.put, List.setIfInBounds_toArray, List.set_cons_zero, List.set_cons_succ]
        refine wpAnyH_take (oi := ⟨_, _, _, _, _, _⟩) (i := 2) (v := .int .i64 i) rfl (by kernel_rfl) (by kernel_rfl) (by kernel_rfl) (fun _ _ _ h => h) (Or.inl ⟨by rfl, ?_⟩) (by assumption) ?_
        · (intro W hSw; have z6 := (hSw.cell (p := ⟨g0, o0 + i * 9 + 6, none⟩) HGW.out).trans x6; have z7 := (hSw.cell (p := ⟨g0, o0 + i * 9 + 7, none⟩) HGW.out).trans x7; go_simp; try (with_reducible rfl))
        try simp only [Act.put, List.setIfInBounds_toArray, List.set_cons_zero, List.set_cons_succ]
        refine wpAnyH_take (oi := ⟨_, _, _, _, _, _⟩) (i := 3) (v := .pointer (some ⟨g0, o0 + i * 9, none⟩)) rfl (by kernel_rfl) (by kernel_rfl) (by kernel_rfl) (fun _ _ _ h => h) (Or.inl ⟨by rfl, ?_⟩) (by assumption) ?_
        · (intro W hSw; have z6 := (hSw.cell (p := ⟨g0, o0 + i * 9 + 6, none⟩) HGW.out).trans x6; have z7 := (hSw.cell (p := ⟨g0, o0 + i * 9 + 7, none⟩) HGW.out).trans x7; go_simp; try (with_reducible rfl))
        try simp only [Act.put, List.setIfInBounds_toArray, List.set_cons_zero, List.set_cons_succ]
        refine wpAnyH_take (oi := ⟨_, _, _, _, _, _⟩) (i := 4) (v := .pointer (some ⟨g0, o0 + i * 9 + 6, none⟩)) rfl (by kernel_rfl) (by kernel_rfl) (by kernel_rfl) (fun _ _ _ h => h) (Or.inl ⟨by rfl, ?_⟩) (by assumption) ?_
        · (intro W hSw; have z6 := (hSw.cell (p := ⟨g0, o0 + i * 9 + 6, none⟩) HGW.out).trans x6; have z7 := (hSw.cell (p := ⟨g0, o0 + i * 9 + 7, none⟩) HGW.out).trans x7; go_simp; try (with_reducible rfl))
        try simp only [Act.put, List.setIfInBounds_toArray, List.set_cons_zero, List.set_cons_succ]
        refine wpAnyH_take (oi := ⟨_, _, _, _, _, _⟩) (i := 5) (v := vb) rfl (by kernel_rfl) (by kernel_rfl) (by kernel_rfl) (fun _ _ _ h => h) (Or.inl ⟨by rfl, ?_⟩) (by assumption) ?_
        · (intro W hSw; have z6 := (hSw.cell (p := ⟨g0, o0 + i * 9 + 6, none⟩) HGW.out).trans x6; have z7 := (hSw.cell (p := ⟨g0, o0 + i * 9 + 7, none⟩) HGW.out).trans x7; go_simp; try (with_reducible rfl))
        try simp only [Act.put, List.setIfInBounds_toArray, List.set_cons_zero, List.set_cons_succ]
        refine wpAnyH_take (oi := ⟨_, _, _, _, _, _⟩) (i := 8) (v := .slice (some ⟨g0, o0, none⟩) m c) rfl (by kernel_rfl) (by kernel_rfl) (by kernel_rfl) (fun _ _ _ h => h) (Or.inl ⟨by rfl, ?_⟩) (by assumption) ?_
        · (intro W hSw; have z6 := (hSw.cell (p := ⟨g0, o0 + i * 9 + 6, none⟩) HGW.out).trans x6; have z7 := (hSw.cell (p := ⟨g0, o0 + i * 9 + 7, none⟩) HGW.out).trans x7; go_simp; try (with_reducible rfl))
        try simp only [Act.put, List.setIfInBounds_toArray, List.set_cons_zero, List.set_cons_succ]
        refine wpAnyH_take (oi := ⟨_, _, _, _, _, _⟩) (i := 9) (v := .int .i64 i) rfl (by kernel_rfl) (by kernel_rfl) (by kernel_rfl) (fun _ _ _ h => h) (Or.inl ⟨by rfl, ?_⟩) (by assumption) ?_
        · (intro W hSw; have z6 := (hSw.cell (p := ⟨g0, o0 + i * 9 + 6, none⟩) HGW.out).trans x6; have z7 := (hSw.cell (p := ⟨g0, o0 + i * 9 + 7, none⟩) HGW.out).trans x7; go_simp; try (with_reducible rfl))
        try simp only [Act.put, List.setIfInBounds_toArray, List.set_cons_zero, List.set_cons_succ]
        refine wpAnyH_take (oi := ⟨_, _, _, _, _, _⟩) (i := 10) (v := .pointer (some ⟨g0, o0 + i * 9, none⟩)) rfl (by kernel_rfl) (by kernel_rfl) (by kernel_rfl) (fun _ _ _ h => h) (Or.inl ⟨by rfl, ?_⟩) (by assumption) ?_
        · (intro W hSw; have z6 := (hSw.cell (p := ⟨g0, o0 + i * 9 + 6, none⟩) HGW.out).trans x6; have z7 := (hSw.cell (p := ⟨g0, o0 + i * 9 + 7, none⟩) HGW.out).trans x7; go_simp; try (with_reducible rfl))
        try simp only [Act.put, List.setIfInBounds_toArray, List.set_cons_zero, List.set_cons_succ]
        refine wpAnyH_take (oi := ⟨_, _, _, _, _, _⟩) (i := 11) (v := .pointer (some ⟨g0, o0 + i * 9 + 7, none⟩)) rfl (by kernel_rfl) (by kernel_rfl) (by kernel_rfl) (fun _ _ _ h => h) (Or.inl ⟨by rfl, ?_⟩) (by assumption) ?_
        · (intro W hSw; have z6 := (hSw.cell (p := ⟨g0, o0 + i * 9 + 6, none⟩) HGW.out).trans x6; have z7 := (hSw.cell (p := ⟨g0, o0 + i * 9 + 7, none⟩) HGW.out).trans x7; go_simp; try (with_reducible rfl))
        try simp only [Act.put, List.setIfInBounds_toArray, List.set_cons_zero, List.set_cons_succ]
        refine wpAnyH_take (oi := ⟨_, _, _, _, _, _⟩) (i := 12) (v := ve) rfl (by kernel_rfl) (by kernel_rfl) (by kernel_rfl) (fun _ _ _ h => h) (Or.inl ⟨by rfl, ?_⟩) (by assumption) ?_
        · (intro W hSw; have z6 := (hSw.cell (p := ⟨g0, o0 + i * 9 + 6, none⟩) HGW.out).trans x6; have z7 := (hSw.cell (p := ⟨g0, o0 + i * 9 + 7, none⟩) HGW.out).trans x7; go_simp; try (with_reducible rfl))
        try simp only [Act.put, List.setIfInBounds_toArray, List.set_cons_zero, List.set_cons_succ]
        refine wpAnyH_ready (rs := [6]) (by kernel_rfl) (by simp) ?_
        refine AllReadyH.cons (o := ⟨_, _, _, _, _, _⟩) rfl (fun K hK => ?_) ?_
        · go_simp
          go_at_call 17
          (with_reducible refine (KB _ hS).out.mono ?_)
          rintro e W1 ⟨rfl, hb⟩
          replace hS := hS.trans (hb.mono hS.size)
          clear hb
          refine hK.out _ _ hS (fun _ => ?_)
          clear hK K
          try simp only [Act.put, List.setIfInBounds_toArray, List.set_cons_zero, List.set_cons_succ]
          refine wpAnyH_take (oi := ⟨_, _, _, _, _, _⟩) (i := 7) (v := .int .i64 (s1 : Nat)) rfl (by kernel_rfl) (by kernel_rfl) (by kernel_rfl) (fun _ _ _ h => h) (Or.inl ⟨by rfl, ?_⟩) (by assumption) ?_
          · (intro W hSw; have z6 := (hSw.cell (p := ⟨g0, o0 + i * 9 + 6, none⟩) HGW.out).trans x6; have z7 := (hSw.cell (p := ⟨g0, o0 + i * 9 + 7, none⟩) HGW.out).trans x7; go_simp; try (with_reducible rfl))
          try simp only [Act.put, List.setIfInBounds_toArray, List.set_cons_zero, List.set_cons_succ]
          refine wpAnyH_ready (rs := [13]) (by kernel_rfl) (by simp) ?_
          refine AllReadyH.cons (o := ⟨_, _, _, _, _, _⟩) rfl (fun K hK => ?_) ?_
          · go_simp
            go_at_call 17
            (with_reducible refine (KE _ hS).out.mono ?_)
            rintro e W2 ⟨rfl, hb⟩
            replace hS := hS.trans (hb.mono hS.size)
            clear hb
            refine hK.out _ _ hS (fun _ => ?_)
            clear hK K
            try simp only [Act.put, List.setIfInBounds_toArray, List.set_cons_zero, List.set_cons_succ]
            refine wpAnyH_take (oi := ⟨_, _, _, _, _, _⟩) (i := 14) (v := .int .i64 (s2 : Nat)) rfl (by kernel_rfl) (by kernel_rfl) (by kernel_rfl) (fun _ _ _ h => h) (Or.inl ⟨by rfl, ?_⟩) (by assumption) ?_
            · (intro W hSw; have z6 := (hSw.cell (p := ⟨g0, o0 + i * 9 + 6, none⟩) HGW.out).trans x6; have z7 := (hSw.cell (p := ⟨g0, o0 + i * 9 + 7, none⟩) HGW.out).trans x7; go_simp; try (with_reducible rfl))
            try simp only [Act.put, List.setIfInBounds_toArray, List.set_cons_zero, List.set_cons_succ]
            refine wpAnyH_take (oi := ⟨_, _, _, _, _, _⟩) (i := 15) (v := .int .i64 (s3 : Nat)) rfl (by kernel_rfl) (by kernel_rfl) (by kernel_rfl) (fun _ _ _ h => h) (Or.inl ⟨by rfl, ?_⟩) (by assumption) ?_
            · (intro W hSw; have z6 := (hSw.cell (p := ⟨g0, o0 + i * 9 + 6, none⟩) HGW.out).trans x6; have z7 := (hSw.cell (p := ⟨g0, o0 + i * 9 + 7, none⟩) HGW.out).trans x7; go_simp; try (with_reducible rfl))
            try simp only [Act.put, List.setIfInBounds_toArray, List.set_cons_zero, List.set_cons_succ]
            refine wpAnyH_take (oi := ⟨_, _, _, _, _, _⟩) (i := 16) (v := .int .i64 (s3 : Nat)) rfl (by kernel_rfl) (by kernel_rfl) (by kernel_rfl) (fun _ _ _ h => h) (Or.inl ⟨by rfl, ?_⟩) (by assumption) ?_
            · (intro W hSw; have z6 := (hSw.cell (p := ⟨g0, o0 + i * 9 + 6, none⟩) HGW.out).trans x6; have z7 := (hSw.cell (p := ⟨g0, o0 + i * 9 + 7, none⟩) HGW.out).trans x7; go_simp; try (with_reducible rfl))
            try simp only [Act.put, List.setIfInBounds_toArray, List.set_cons_zero, List.set_cons_succ]
            refine wpAnyH_done (by kernel_rfl) ?_ _
            go_wp2_with fail
            go_roundw
            case rel => exact ⟨i + 1, rest, s3, hlt, by go_num, rfl, HLE.out.1, HLE.out.2.1, HRS.out, by have := HR.out; have := HE3.out; omega, HLE.out.2.2, hS⟩
            case measure => simp [intOf]; omega
          exact AllReadyH.nil
        exact AllReadyH.nil
end Go.Proofs.YteianbgampljeaaGreat
