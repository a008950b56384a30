/-
  LVWid, LDoR, LWDo: merged, what the law does not reach left out (each text says what it holds where it lies in wip). No condition.
-/
import Derived.Test.YtlhakbkdlgejpaaGreatDoorJ06
import Derived.Test.YtlhakbkdlgejpaaGreatDoorJ18
import Derived.Test.YtlhakbkdlgejpaaGreatDoorJ03
import Derived.Test.YtlhakbkdlgejpaaGreatDoorJ12
import Derived.Test.YtlhakbkdlgejpaaGreatDoorJ13
set_option linter.unusedSimpArgs false
set_option linter.unusedVariables false
set_option maxRecDepth 100000
namespace Go.Proofs.YtlhakbkdlgejpaaGreatDoor
open Go.RowKit
set_option maxHeartbeats 8000000 in
theorem vector_wid (k : Nat) (vb : List UInt8) (hk : (k = 0 ∧ vb = [101, 120, 116, 101, 110, 100, 95, 108, 111, 119]) ∨ (k = 1 ∧ vb = [101, 120, 116, 101, 110, 100, 95, 104, 105, 103, 104]) ∨ (k = 2 ∧ vb = [101, 120, 116, 109, 117, 108, 95, 108, 111, 119]) ∨ (k = 3 ∧ vb = [101, 120, 116, 109, 117, 108, 95, 104, 105, 103, 104]) ∨ (k = 4 ∧ vb = [101, 120, 116, 97, 100, 100, 95, 112, 97, 105, 114, 119, 105, 115, 101]) ∨ (k = 5 ∧ vb = [100, 111, 116])) (ff : Bool) (n : Nat) (hn : Okn n) (tf : Bool) (tb : Int) (sg : Bool) (vi va : Value) (c m : Nat) (hm1 : 1 ≤ m) (hm : c = 2 * m) (hc : c ≤ 16) (F G : Nat → Nat) (hF : ∀ i, F i < 18446744073709551616) (hG : ∀ i, G i < 18446744073709551616) (w : World)
  (H0 : ∀ W, Below w.heap.size w W → Calls Tryz.prog 64 #[insV vb ff n tf tb sg, va, .int .i64 0] W (LPost W c F))
  (H1 : ∀ W, Below w.heap.size w W → Calls Tryz.prog 64 #[insV vb ff n tf tb sg, va, .int .i64 1] W (LPost W c G)) :
  Calls Tryz.prog 34 #[insV vb ff n tf tb sg, vi, va] w (fun e w' => ∃ v, e = .returned v ∧ RowAt w' v m (widR k m (fun i => extF n sg (F i)) (fun i => extF n sg (G i))) ∧ Below w.heap.size w w') := by
 have HEX := fun g1 g2 cap1 cap2 W h1 h2 h3 h4 => hid (extended_says k vb hk ff n hn tf tb sg (w.heap.size + 1) g1 g2 cap1 cap2 c m hm1 hc hm h4 F G hF hG W h3 h1 h2)
 have hc1 : 1 ≤ c := by omega
 have HK := hid hk
 unfold insV at H0 H1 HEX ⊢
 obtain ⟨s, hs⟩ : ∃ s, s = str vb := ⟨_, rfl⟩
 rw [← hs] at H0 H1 HEX ⊢
 have HS := hid hs
 have HH0 := fun W h => hid (H0 W h)
 have HH1 := fun W h => hid (H1 W h)
 have HZ := hid (show ∀ l, vb = l → s.toList = l from fun l h => by rw [hs, str_list, h])
 clear H0 H1 hk hs hm hF hG hn hc
 generalize (widR k m (fun i => extF n sg (F i)) (fun i => extF n sg (G i))) = R at *
 go_enter Tryz.func34, Tryz.ntmps34
 go_upto_region 1 with fail
 have hS : Below w.heap.size w (w.alloc (.cells #[.string s, .bool ff, .int .i64 n, .bool tf, .int .i64 tb, .bool sg] 50)).drew ∧ CA w.heap.size #[.string s, .bool ff, .int .i64 n, .bool tf, .int .i64 tb, .bool sg] 50 (w.alloc (.cells #[.string s, .bool ff, .int .i64 n, .bool tf, .int .i64 tb, .bool sg] 50)).drew := ⟨((Below.refl _ w).alloc (Nat.le_refl _) _).drew, (CA.new w _ 50).drew⟩
 refine wp_region_held_drew (S := fun W => Below w.heap.size w W ∧ CA w.heap.size #[.string s, .bool ff, .int .i64 n, .bool tf, .int .i64 tb, .bool sg] 50 W) (by kernel_rfl) hS (fun _ => ?_)
 generalize (w.alloc (.cells #[.string s, .bool ff, .int .i64 n, .bool tf, .int .i64 tb, .bool sg] 50)).drew = W at *
 refine wpAnyH_take (oi := ⟨_, _, _, _, _, _⟩) (i := 0) (v := .agg #[.string s, .bool ff, .int .i64 n, .bool tf, .int .i64 tb, .bool sg]) rfl (by kernel_rfl) (by kernel_rfl) (by kernel_rfl) (fun _ _ _ h => h) (Or.inl ⟨by rfl, ?_⟩) (by assumption) ?_
 ·(intro W hSw; have x0 := hSw.2.at (k := 0) (v := .string s) rfl; have x1 := hSw.2.at (k := 1) (v := .bool ff) rfl; have x2 := hSw.2.at (k := 2) (v := .int .i64 n) rfl; have x3 := hSw.2.at (k := 3) (v := .bool tf) rfl; have x4 := hSw.2.at (k := 4) (v := .int .i64 tb) rfl; have x5 := hSw.2.at (k := 5) (v := .bool sg) rfl; go_simp; try (with_reducible rfl))
 try simp only [Act.put, List.setIfInBounds_toArray, List.set_cons_zero, List.set_cons_succ]
 refine wpAnyH_take (oi := ⟨_, _, _, _, _, _⟩) (i := 1) (v := va) rfl (by kernel_rfl) (by kernel_rfl) (by kernel_rfl) (fun _ _ _ h => h) (Or.inl ⟨by rfl, ?_⟩) (by assumption) ?_
 ·(intro W hSw; have x0 := hSw.2.at (k := 0) (v := .string s) rfl; have x1 := hSw.2.at (k := 1) (v := .bool ff) rfl; have x2 := hSw.2.at (k := 2) (v := .int .i64 n) rfl; have x3 := hSw.2.at (k := 3) (v := .bool tf) rfl; have x4 := hSw.2.at (k := 4) (v := .int .i64 tb) rfl; have x5 := hSw.2.at (k := 5) (v := .bool sg) rfl; go_simp; try (with_reducible rfl))
 try simp only [Act.put, List.setIfInBounds_toArray, List.set_cons_zero, List.set_cons_succ]
 refine wpAnyH_take (oi := ⟨_, _, _, _, _, _⟩) (i := 3) (v := .agg #[.string s, .bool ff, .int .i64 n, .bool tf, .int .i64 tb, .bool sg]) rfl (by kernel_rfl) (by kernel_rfl) (by kernel_rfl) (fun _ _ _ h => h) (Or.inl ⟨by rfl, ?_⟩) (by assumption) ?_
 ·(intro W hSw; have x0 := hSw.2.at (k := 0) (v := .string s) rfl; have x1 := hSw.2.at (k := 1) (v := .bool ff) rfl; have x2 := hSw.2.at (k := 2) (v := .int .i64 n) rfl; have x3 := hSw.2.at (k := 3) (v := .bool tf) rfl; have x4 := hSw.2.at (k := 4) (v := .int .i64 tb) rfl; have x5 := hSw.2.at (k := 5) (v := .bool sg) rfl; go_simp; try (with_reducible rfl))
 try simp only [Act.put, List.setIfInBounds_toArray, List.set_cons_zero, List.set_cons_succ]
 refine wpAnyH_take (oi := ⟨_, _, _, _, _, _⟩) (i := 4) (v := va) rfl (by kernel_rfl) (by kernel_rfl) (by kernel_rfl) (fun _ _ _ h => h) (Or.inl ⟨by rfl, ?_⟩) (by assumption) ?_
 ·(intro W hSw; have x0 := hSw.2.at (k := 0) (v := .string s) rfl; have x1 := hSw.2.at (k := 1) (v := .bool ff) rfl; have x2 := hSw.2.at (k := 2) (v := .int .i64 n) rfl; have x3 := hSw.2.at (k := 3) (v := .bool tf) rfl; have x4 := hSw.2.at (k := 4) (v := .int .i64 tb) rfl; have x5 := hSw.2.at (k := 5) (v := .bool sg) rfl; go_simp; try (with_reducible rfl))
 try simp only [Act.put, List.setIfInBounds_toArray, List.set_cons_zero, List.set_cons_succ]
 refine wpAnyH_ready (rs := [2]) (by kernel_rfl) (by simp) ?_
 refine AllReadyH.cons (o := ⟨_, _, _, _, _, _⟩) rfl (fun K hK => ?_) ?_
 ·go_simp
  go_at_call 64
  (with_reducible refine (HH0 _ hS.1).out.mono ?_)
  rintro e W1 ⟨v1, rfl, ho1, hb⟩
  have hlt0 : w.heap.size + 1 ≤ W.heap.size := hS.2.lt
  have HO1 := hid (own_mono ho1 hlt0)
  replace hS := And.intro (hS.1.trans (hb.mono hS.1.size)) (hS.2.call hb)
  have HB11 := hid (show w.heap.size + 1 ≤ W1.heap.size from hS.2.lt)
  have HG1 := hid (show ∀ g cap, v1 = .slice (some ⟨g, 0, none⟩) c cap → g < W1.heap.size from fun g cap h => (ho1.lt g (by rw [h]; rfl)).2)
  clear hb ho1
  refine hK.out _ _ hS (fun _ => ?_)
  clear hK K
  try simp only [Act.put, List.setIfInBounds_toArray, List.set_cons_zero, List.set_cons_succ]
  refine wpAnyH_ready (rs := [5]) (by kernel_rfl) (by simp) ?_
  refine AllReadyH.cons (o := ⟨_, _, _, _, _, _⟩) rfl (fun K hK => ?_) ?_
  ·go_simp
   go_at_call 64
   (with_reducible refine (HH1 _ hS.1).out.mono ?_)
   rintro e W2 ⟨v2, rfl, ho2, hb⟩
   replace hS := And.intro (hS.1.trans (hb.mono hS.1.size)) (hS.2.call hb)
   replace HO1 := hid (own_below HO1.out hb (Nat.le_refl _))
   have HO2 := hid ho2
   clear hb ho2
   refine hK.out _ _ hS (fun _ => ?_)
   clear hK K
   try simp only [Act.put, List.setIfInBounds_toArray, List.set_cons_zero, List.set_cons_succ]
   refine wpAnyH_take (oi := ⟨_, _, _, _, _, _⟩) (i := 6) (v := v1) rfl (by kernel_rfl) (by kernel_rfl) (by kernel_rfl) (fun _ _ _ h => h) (Or.inl ⟨by rfl, ?_⟩) (by assumption) ?_
   ·(intro W hSw; have x0 := hSw.2.at (k := 0) (v := .string s) rfl; have x1 := hSw.2.at (k := 1) (v := .bool ff) rfl; have x2 := hSw.2.at (k := 2) (v := .int .i64 n) rfl; have x3 := hSw.2.at (k := 3) (v := .bool tf) rfl; have x4 := hSw.2.at (k := 4) (v := .int .i64 tb) rfl; have x5 := hSw.2.at (k := 5) (v := .bool sg) rfl; go_simp; try (with_reducible rfl))
   try simp only [Act.put, List.setIfInBounds_toArray, List.set_cons_zero, List.set_cons_succ]
   refine wpAnyH_take (oi := ⟨_, _, _, _, _, _⟩) (i := 7) (v := v2) rfl (by kernel_rfl) (by kernel_rfl) (by kernel_rfl) (fun _ _ _ h => h) (Or.inl ⟨by rfl, ?_⟩) (by assumption) ?_
   ·(intro W hSw; have x0 := hSw.2.at (k := 0) (v := .string s) rfl; have x1 := hSw.2.at (k := 1) (v := .bool ff) rfl; have x2 := hSw.2.at (k := 2) (v := .int .i64 n) rfl; have x3 := hSw.2.at (k := 3) (v := .bool tf) rfl; have x4 := hSw.2.at (k := 4) (v := .int .i64 tb) rfl; have x5 := hSw.2.at (k := 5) (v := .bool sg) rfl; go_simp; try (with_reducible rfl))
   try simp only [Act.put, List.setIfInBounds_toArray, List.set_cons_zero, List.set_cons_succ]
   refine wpAnyH_done (by kernel_rfl) ?_ _
   have y0 := hS.2.at (k := 0) (v := .string s) rfl
   have y1 := hS.2.at (k := 1) (v := .bool ff) rfl
   have y2 := hS.2.at (k := 2) (v := .int .i64 n) rfl
   have y3 := hS.2.at (k := 3) (v := .bool tf) rfl
   have y4 := hS.2.at (k := 4) (v := .int .i64 tb) rfl
   have y5 := hS.2.at (k := 5) (v := .bool sg) rfl
   obtain ⟨g1, cap1, rfl⟩ := owned_at HO1.out hc1
   obtain ⟨g2, cap2, rfl⟩ := owned_at HO2.out hc1
   have hg12 : g1 ≠ g2 := by
    have e1 := HG1.out g1 cap1 rfl
    have e2 := (HO2.out.lt g2 rfl).1
    omega
   have HXX := HEX g1 g2 cap1 cap2 W2 HO1.out (own_mono HO2.out HB11.out) (Nat.succ_le_of_lt hS.2.lt) hg12
   have HB2 := hid hS.1
   clear HO1 HO2 HG1 HB11 HEX hg12 hS HH0 HH1
   have hv := HK.out
   rcases hv with ⟨_, hv⟩ | ⟨_, hv⟩ | ⟨_, hv⟩ | ⟨_, hv⟩ | ⟨_, hv⟩ | ⟨_, hv⟩
   ·have q0 : (s.toList == [115, 112, 108, 97, 116]) = false := by rw [HZ.out _ hv]; decide
    have q1 : (s.toList == [114, 101, 112, 108, 97, 99, 101, 95, 108, 97, 110, 101]) = false := by rw [HZ.out _ hv]; decide
    have q2 : (s.toList == [115, 104, 117, 102, 102, 108, 101]) = false := by rw [HZ.out _ hv]; decide
    have q3 : (s.toList == [115, 119, 105, 122, 122, 108, 101]) = false := by rw [HZ.out _ hv]; decide
    have q4 : (s.toList == [98, 105, 116, 115, 101, 108, 101, 99, 116]) = false := by rw [HZ.out _ hv]; decide
    have q5 : (s.toList == [110, 97, 114, 114, 111, 119]) = false := by rw [HZ.out _ hv]; decide
    have q6 : (s.toList == [101, 120, 116, 101, 110, 100, 95, 108, 111, 119]) = true := by rw [HZ.out _ hv]; decide
    clear hv HK HZ HS
    go_wp2_with (go_at_call 69; (with_reducible refine HXX.out.mono ?_); rintro e W4 ⟨v4, rfl, hr4, hb4⟩; have HR4 := hid hr4; have HB4 := hid (HB2.out.trans (hb4.mono (Nat.le_succ _))); clear hr4 hb4)
    go_ret
    exact ⟨_, rfl, HR4.out, HB4.out⟩
   ·have q0 : (s.toList == [115, 112, 108, 97, 116]) = false := by rw [HZ.out _ hv]; decide
    have q1 : (s.toList == [114, 101, 112, 108, 97, 99, 101, 95, 108, 97, 110, 101]) = false := by rw [HZ.out _ hv]; decide
    have q2 : (s.toList == [115, 104, 117, 102, 102, 108, 101]) = false := by rw [HZ.out _ hv]; decide
    have q3 : (s.toList == [115, 119, 105, 122, 122, 108, 101]) = false := by rw [HZ.out _ hv]; decide
    have q4 : (s.toList == [98, 105, 116, 115, 101, 108, 101, 99, 116]) = false := by rw [HZ.out _ hv]; decide
    have q5 : (s.toList == [110, 97, 114, 114, 111, 119]) = false := by rw [HZ.out _ hv]; decide
    have q6 : (s.toList == [101, 120, 116, 101, 110, 100, 95, 108, 111, 119]) = false := by rw [HZ.out _ hv]; decide
    have q7 : (s.toList == [101, 120, 116, 101, 110, 100, 95, 104, 105, 103, 104]) = true := by rw [HZ.out _ hv]; decide
    clear hv HK HZ HS
    go_wp2_with (go_at_call 69; (with_reducible refine HXX.out.mono ?_); rintro e W4 ⟨v4, rfl, hr4, hb4⟩; have HR4 := hid hr4; have HB4 := hid (HB2.out.trans (hb4.mono (Nat.le_succ _))); clear hr4 hb4)
    go_ret
    exact ⟨_, rfl, HR4.out, HB4.out⟩
   ·have q0 : (s.toList == [115, 112, 108, 97, 116]) = false := by rw [HZ.out _ hv]; decide
    have q1 : (s.toList == [114, 101, 112, 108, 97, 99, 101, 95, 108, 97, 110, 101]) = false := by rw [HZ.out _ hv]; decide
    have q2 : (s.toList == [115, 104, 117, 102, 102, 108, 101]) = false := by rw [HZ.out _ hv]; decide
    have q3 : (s.toList == [115, 119, 105, 122, 122, 108, 101]) = false := by rw [HZ.out _ hv]; decide
    have q4 : (s.toList == [98, 105, 116, 115, 101, 108, 101, 99, 116]) = false := by rw [HZ.out _ hv]; decide
    have q5 : (s.toList == [110, 97, 114, 114, 111, 119]) = false := by rw [HZ.out _ hv]; decide
    have q6 : (s.toList == [101, 120, 116, 101, 110, 100, 95, 108, 111, 119]) = false := by rw [HZ.out _ hv]; decide
    have q7 : (s.toList == [101, 120, 116, 101, 110, 100, 95, 104, 105, 103, 104]) = false := by rw [HZ.out _ hv]; decide
    have q8 : (s.toList == [101, 120, 116, 109, 117, 108, 95, 108, 111, 119]) = true := by rw [HZ.out _ hv]; decide
    clear hv HK HZ HS
    go_wp2_with (go_at_call 69; (with_reducible refine HXX.out.mono ?_); rintro e W4 ⟨v4, rfl, hr4, hb4⟩; have HR4 := hid hr4; have HB4 := hid (HB2.out.trans (hb4.mono (Nat.le_succ _))); clear hr4 hb4)
    go_ret
    exact ⟨_, rfl, HR4.out, HB4.out⟩
   ·have q0 : (s.toList == [115, 112, 108, 97, 116]) = false := by rw [HZ.out _ hv]; decide
    have q1 : (s.toList == [114, 101, 112, 108, 97, 99, 101, 95, 108, 97, 110, 101]) = false := by rw [HZ.out _ hv]; decide
    have q2 : (s.toList == [115, 104, 117, 102, 102, 108, 101]) = false := by rw [HZ.out _ hv]; decide
    have q3 : (s.toList == [115, 119, 105, 122, 122, 108, 101]) = false := by rw [HZ.out _ hv]; decide
    have q4 : (s.toList == [98, 105, 116, 115, 101, 108, 101, 99, 116]) = false := by rw [HZ.out _ hv]; decide
    have q5 : (s.toList == [110, 97, 114, 114, 111, 119]) = false := by rw [HZ.out _ hv]; decide
    have q6 : (s.toList == [101, 120, 116, 101, 110, 100, 95, 108, 111, 119]) = false := by rw [HZ.out _ hv]; decide
    have q7 : (s.toList == [101, 120, 116, 101, 110, 100, 95, 104, 105, 103, 104]) = false := by rw [HZ.out _ hv]; decide
    have q8 : (s.toList == [101, 120, 116, 109, 117, 108, 95, 108, 111, 119]) = false := by rw [HZ.out _ hv]; decide
    have q9 : (s.toList == [101, 120, 116, 109, 117, 108, 95, 104, 105, 103, 104]) = true := by rw [HZ.out _ hv]; decide
    clear hv HK HZ HS
    go_wp2_with (go_at_call 69; (with_reducible refine HXX.out.mono ?_); rintro e W4 ⟨v4, rfl, hr4, hb4⟩; have HR4 := hid hr4; have HB4 := hid (HB2.out.trans (hb4.mono (Nat.le_succ _))); clear hr4 hb4)
    go_ret
    exact ⟨_, rfl, HR4.out, HB4.out⟩
   ·have q0 : (s.toList == [115, 112, 108, 97, 116]) = false := by rw [HZ.out _ hv]; decide
    have q1 : (s.toList == [114, 101, 112, 108, 97, 99, 101, 95, 108, 97, 110, 101]) = false := by rw [HZ.out _ hv]; decide
    have q2 : (s.toList == [115, 104, 117, 102, 102, 108, 101]) = false := by rw [HZ.out _ hv]; decide
    have q3 : (s.toList == [115, 119, 105, 122, 122, 108, 101]) = false := by rw [HZ.out _ hv]; decide
    have q4 : (s.toList == [98, 105, 116, 115, 101, 108, 101, 99, 116]) = false := by rw [HZ.out _ hv]; decide
    have q5 : (s.toList == [110, 97, 114, 114, 111, 119]) = false := by rw [HZ.out _ hv]; decide
    have q6 : (s.toList == [101, 120, 116, 101, 110, 100, 95, 108, 111, 119]) = false := by rw [HZ.out _ hv]; decide
    have q7 : (s.toList == [101, 120, 116, 101, 110, 100, 95, 104, 105, 103, 104]) = false := by rw [HZ.out _ hv]; decide
    have q8 : (s.toList == [101, 120, 116, 109, 117, 108, 95, 108, 111, 119]) = false := by rw [HZ.out _ hv]; decide
    have q9 : (s.toList == [101, 120, 116, 109, 117, 108, 95, 104, 105, 103, 104]) = false := by rw [HZ.out _ hv]; decide
    have q10 : (s.toList == [101, 120, 116, 97, 100, 100, 95, 112, 97, 105, 114, 119, 105, 115, 101]) = true := by rw [HZ.out _ hv]; decide
    clear hv HK HZ HS
    go_wp2_with (go_at_call 69; (with_reducible refine HXX.out.mono ?_); rintro e W4 ⟨v4, rfl, hr4, hb4⟩; have HR4 := hid hr4; have HB4 := hid (HB2.out.trans (hb4.mono (Nat.le_succ _))); clear hr4 hb4)
    go_ret
    exact ⟨_, rfl, HR4.out, HB4.out⟩
   ·have q0 : (s.toList == [115, 112, 108, 97, 116]) = false := by rw [HZ.out _ hv]; decide
    have q1 : (s.toList == [114, 101, 112, 108, 97, 99, 101, 95, 108, 97, 110, 101]) = false := by rw [HZ.out _ hv]; decide
    have q2 : (s.toList == [115, 104, 117, 102, 102, 108, 101]) = false := by rw [HZ.out _ hv]; decide
    have q3 : (s.toList == [115, 119, 105, 122, 122, 108, 101]) = false := by rw [HZ.out _ hv]; decide
    have q4 : (s.toList == [98, 105, 116, 115, 101, 108, 101, 99, 116]) = false := by rw [HZ.out _ hv]; decide
    have q5 : (s.toList == [110, 97, 114, 114, 111, 119]) = false := by rw [HZ.out _ hv]; decide
    have q6 : (s.toList == [101, 120, 116, 101, 110, 100, 95, 108, 111, 119]) = false := by rw [HZ.out _ hv]; decide
    have q7 : (s.toList == [101, 120, 116, 101, 110, 100, 95, 104, 105, 103, 104]) = false := by rw [HZ.out _ hv]; decide
    have q8 : (s.toList == [101, 120, 116, 109, 117, 108, 95, 108, 111, 119]) = false := by rw [HZ.out _ hv]; decide
    have q9 : (s.toList == [101, 120, 116, 109, 117, 108, 95, 104, 105, 103, 104]) = false := by rw [HZ.out _ hv]; decide
    have q10 : (s.toList == [101, 120, 116, 97, 100, 100, 95, 112, 97, 105, 114, 119, 105, 115, 101]) = false := by rw [HZ.out _ hv]; decide
    have q11 : (s.toList == [100, 111, 116]) = true := by rw [HZ.out _ hv]; decide
    clear hv HK HZ HS
    go_wp2_with (go_at_call 69; (with_reducible refine HXX.out.mono ?_); rintro e W4 ⟨v4, rfl, hr4, hb4⟩; have HR4 := hid hr4; have HB4 := hid (HB2.out.trans (hb4.mono (Nat.le_succ _))); clear hr4 hb4)
    go_ret
    exact ⟨_, rfl, HR4.out, HB4.out⟩
  exact AllReadyH.nil
 exact AllReadyH.nil
end Go.Proofs.YtlhakbkdlgejpaaGreatDoor
namespace Go.Proofs.YtlhakbkdlgejpaaGreatDoor
open Go.RowKit
set_option maxHeartbeats 4000000 in
set_option maxRecDepth 100000 in
theorem Do_row (op : Int) (nm : List UInt8) (hnm : (lineL op).1 = str nm) (vb : List UInt8) (ff : Bool) (fb : Int) (tf : Bool) (n : Nat) (hn : Okn n) (sg : Bool) (hpar : parV nm = insV vb ff fb tf n sg) (hn1 : nm.length ≤ 1000) (hok : ((xsL nm).2 == 0) = false → 0 ≤ laL6 nm) (hlb : lbL op = [123])
  (vi va : Value) (w : World) (hg : Glob w) (Hfit : ∀ W, Below w.heap.size w W → Calls Tryz.prog 30 #[.int .i64 op, vi, va] W fun e w' => e = .returned (.bool true) ∧ Below W.heap.size W w')
  (F : Nat → Nat) (hF : ∀ i, i < cnt n → F i < 18446744073709551616) (Hvec : ∀ W, Below w.heap.size w W → Calls Tryz.prog 34 #[insV vb ff fb tf n sg, vi, va] W fun e w' => ∃ v, e = .returned v ∧ RowAt w' v (cnt n) F ∧ Below W.heap.size W w') :
  Calls Tryz.prog 20 #[.int .i64 op, vi, va] w fun e w' => e = .returned (.tuple #[vv 123 (loF n F) (hiF n F) false, .int .i64 0]) ∧ Below w.heap.size w w' := by
 have HFI := fun W h => hid (Hfit W h)
 have HN := fun W => hid (Name_says op W)
 rw [hnm] at HN
 have HP := fun W => hid (parsed_says nm hn1 hok W)
 rw [hpar] at HP
 have HSG := fun W (h : Glob W) => hid (Sign_any op W h)
 rw [hlb] at HSG
 have HV := fun W h => hid (Hvec W h)
 have hc1 : 1 ≤ cnt n := by rcases hn.cases with ⟨_, _, h⟩ | ⟨_, _, h⟩ | ⟨_, _, h⟩ | ⟨_, _, h⟩ <;> omega
 have HJ := fun v W (h : RowAt W v (cnt n) F) => hid (Join_says n hn v F W h hF)
 have HGL := hid hg
 unfold insV at HP HV
 unfold vv at HJ ⊢
 generalize loF n F = lo at *
 generalize hiF n F = hi at *
 generalize laL op = la at *
 generalize fxB (lineL op) = fx at *
 generalize str nm = s at *
 generalize str vb = s2 at *
 generalize cnt n = c at *
 clear hnm hpar hn1 hok hlb hg Hfit Hvec hF hn
 go_enter Tryz.func20, Tryz.ntmps20
 go_upto_region 5 with (first
  | (go_at_call 30; refine (HFI _ ((Below.refl _ w).alloc (Nat.le_refl _) _)).out.mono ?_; rintro e w1 ⟨rfl, hb1⟩; have HR1 := hid (below_new hb1); clear hb1)
  | (go_at_call 32; refine (HN _).out.mono ?_; rintro e w2 ⟨rfl, hb2⟩; have HR2 := hid (And.intro (HR1.out.1.call hb2) (HR1.out.2.trans (hb2.mono HR1.out.2.size))); clear hb2)
  | (go_at_call 31; refine (HP _).out.mono ?_; rintro e w3 ⟨rfl, hb3⟩; have HR3 := hid (And.intro (HR2.out.1.call hb3) (HR2.out.2.trans (hb3.mono HR2.out.2.size))); clear hb3)
  | (go_at_call 33; refine (HSG _ (HGL.out.next (HR3.out.2.alloc HR3.out.2.size _))).out.mono ?_; rintro e w5 ⟨v1, v2, B2, rfl, ho1, ho2, hB2, hsep, hb⟩; have HL := hid ho2; have HN5 := hid (below_new hb); clear hb ho1 ho2 hB2 hsep))
 obtain ⟨gt, ct, rfl⟩ : ∃ g cap, v2 = .slice (some ⟨g, 0, none⟩) 1 cap := owned_at HL.out (Nat.le_refl _)
 have k0 : w5.cell? ⟨gt, 0, none⟩ = some (.int .i64 123) := HL.out.cellAt 0 (by decide)
 have hX : CA w3.heap.size #[.string s2, .bool ff, .int .i64 fb, .bool tf, .int .i64 n, .bool sg] 50 w5 := HN5.out.1
 have hR : CA w.heap.size #[.int .i64 0, .int .u64 0, .int .u64 0, .bool false] 24 w5 := HR3.out.1.call HN5.out.2
 have hB : Below w.heap.size w w5 := HR3.out.2.trans (HN5.out.2.mono HR3.out.2.size)
 have hne : w.heap.size ≠ w3.heap.size := Nat.ne_of_lt HR3.out.1.lt
 generalize w3.heap.size = g8 at *
 clear HN5 HR3 HR2 HR1 HL HSG HP HN HFI
 go_upto_region 7 with fail
 have hS : Below w.heap.size w w5.drew ∧ CA g8 #[.string s2, .bool ff, .int .i64 fb, .bool tf, .int .i64 n, .bool sg] 50 w5.drew := ⟨hB.drew, hX.drew⟩
 have HJW : CA w.heap.size #[.int .i64 0, .int .u64 0, .int .u64 0, .bool false] 24 w5.drew := hR.drew
 clear k0 hX hR hB
 refine wp_region_held_drew (S := fun W => Below w.heap.size w W ∧ CA g8 #[.string s2, .bool ff, .int .i64 fb, .bool tf, .int .i64 n, .bool sg] 50 W) (by kernel_rfl) hS (fun _ => ?_)
 generalize w5.drew = W at *
 refine wpAnyH_take (oi := ⟨_, _, _, _, _, _⟩) (i := 0) (v := .pointer (some ⟨g8, 3, none⟩)) rfl (by kernel_rfl) (by kernel_rfl) (by kernel_rfl) (fun _ _ _ h => h) (Or.inl ⟨by rfl, ?_⟩) (by assumption) ?_
 ·(intro W hSw; have x0 := hSw.2.at (k := 0) (v := .string s2) rfl; have x1 := hSw.2.at (k := 1) (v := .bool ff) rfl; have x2 := hSw.2.at (k := 2) (v := .int .i64 fb) rfl; have x3 := hSw.2.at (k := 3) (v := .bool tf) rfl; have x4 := hSw.2.at (k := 4) (v := .int .i64 n) rfl; have x5 := hSw.2.at (k := 5) (v := .bool sg) rfl; go_simp; try (with_reducible rfl))
 try simp only [Act.put, List.setIfInBounds_toArray, List.set_cons_zero, List.set_cons_succ]
 refine wpAnyH_take (oi := ⟨_, _, _, _, _, _⟩) (i := 1) (v := .pointer (some ⟨g8, 4, none⟩)) rfl (by kernel_rfl) (by kernel_rfl) (by kernel_rfl) (fun _ _ _ h => h) (Or.inl ⟨by rfl, ?_⟩) (by assumption) ?_
 ·(intro W hSw; have x0 := hSw.2.at (k := 0) (v := .string s2) rfl; have x1 := hSw.2.at (k := 1) (v := .bool ff) rfl; have x2 := hSw.2.at (k := 2) (v := .int .i64 fb) rfl; have x3 := hSw.2.at (k := 3) (v := .bool tf) rfl; have x4 := hSw.2.at (k := 4) (v := .int .i64 n) rfl; have x5 := hSw.2.at (k := 5) (v := .bool sg) rfl; go_simp; try (with_reducible rfl))
 try simp only [Act.put, List.setIfInBounds_toArray, List.set_cons_zero, List.set_cons_succ]
 refine wpAnyH_take (oi := ⟨_, _, _, _, _, _⟩) (i := 2) (v := .int .i64 n) rfl (by kernel_rfl) (by kernel_rfl) (by kernel_rfl) (fun _ _ _ h => h) (Or.inl ⟨by rfl, ?_⟩) (by assumption) ?_
 ·(intro W hSw; have x0 := hSw.2.at (k := 0) (v := .string s2) rfl; have x1 := hSw.2.at (k := 1) (v := .bool ff) rfl; have x2 := hSw.2.at (k := 2) (v := .int .i64 fb) rfl; have x3 := hSw.2.at (k := 3) (v := .bool tf) rfl; have x4 := hSw.2.at (k := 4) (v := .int .i64 n) rfl; have x5 := hSw.2.at (k := 5) (v := .bool sg) rfl; go_simp; try (with_reducible rfl))
 try simp only [Act.put, List.setIfInBounds_toArray, List.set_cons_zero, List.set_cons_succ]
 refine wpAnyH_take (oi := ⟨_, _, _, _, _, _⟩) (i := 3) (v := .agg #[.string s2, .bool ff, .int .i64 fb, .bool tf, .int .i64 n, .bool sg]) rfl (by kernel_rfl) (by kernel_rfl) (by kernel_rfl) (fun _ _ _ h => h) (Or.inl ⟨by rfl, ?_⟩) (by assumption) ?_
 ·(intro W hSw; have x0 := hSw.2.at (k := 0) (v := .string s2) rfl; have x1 := hSw.2.at (k := 1) (v := .bool ff) rfl; have x2 := hSw.2.at (k := 2) (v := .int .i64 fb) rfl; have x3 := hSw.2.at (k := 3) (v := .bool tf) rfl; have x4 := hSw.2.at (k := 4) (v := .int .i64 n) rfl; have x5 := hSw.2.at (k := 5) (v := .bool sg) rfl; go_simp; try (with_reducible rfl))
 try simp only [Act.put, List.setIfInBounds_toArray, List.set_cons_zero, List.set_cons_succ]
 refine wpAnyH_take (oi := ⟨_, _, _, _, _, _⟩) (i := 4) (v := vi) rfl (by kernel_rfl) (by kernel_rfl) (by kernel_rfl) (fun _ _ _ h => h) (Or.inl ⟨by rfl, ?_⟩) (by assumption) ?_
 ·(intro W hSw; have x0 := hSw.2.at (k := 0) (v := .string s2) rfl; have x1 := hSw.2.at (k := 1) (v := .bool ff) rfl; have x2 := hSw.2.at (k := 2) (v := .int .i64 fb) rfl; have x3 := hSw.2.at (k := 3) (v := .bool tf) rfl; have x4 := hSw.2.at (k := 4) (v := .int .i64 n) rfl; have x5 := hSw.2.at (k := 5) (v := .bool sg) rfl; go_simp; try (with_reducible rfl))
 try simp only [Act.put, List.setIfInBounds_toArray, List.set_cons_zero, List.set_cons_succ]
 refine wpAnyH_take (oi := ⟨_, _, _, _, _, _⟩) (i := 5) (v := va) rfl (by kernel_rfl) (by kernel_rfl) (by kernel_rfl) (fun _ _ _ h => h) (Or.inl ⟨by rfl, ?_⟩) (by assumption) ?_
 ·(intro W hSw; have x0 := hSw.2.at (k := 0) (v := .string s2) rfl; have x1 := hSw.2.at (k := 1) (v := .bool ff) rfl; have x2 := hSw.2.at (k := 2) (v := .int .i64 fb) rfl; have x3 := hSw.2.at (k := 3) (v := .bool tf) rfl; have x4 := hSw.2.at (k := 4) (v := .int .i64 n) rfl; have x5 := hSw.2.at (k := 5) (v := .bool sg) rfl; go_simp; try (with_reducible rfl))
 try simp only [Act.put, List.setIfInBounds_toArray, List.set_cons_zero, List.set_cons_succ]
 refine wpAnyH_ready (rs := [6]) (by kernel_rfl) (by simp) ?_
 refine AllReadyH.cons (o := ⟨_, _, _, _, _, _⟩) rfl (fun K hK => ?_) ?_
 ·go_simp
  go_at_call 34
  (with_reducible refine (HV _ hS.1).out.mono ?_)
  rintro e W1 ⟨v1, rfl, ho1, hb⟩
  replace hS := And.intro (hS.1.trans (hb.mono hS.1.size)) (hS.2.call hb)
  replace HJW := HJW.call hb
  have HR1 := ho1
  clear hb ho1
  refine hK.out _ _ hS (fun _ => ?_)
  clear hK K
  try simp only [Act.put, List.setIfInBounds_toArray, List.set_cons_zero, List.set_cons_succ]
  refine wpAnyH_ready (rs := [7]) (by kernel_rfl) (by simp) ?_
  refine AllReadyH.cons (o := ⟨_, _, _, _, _, _⟩) rfl (fun K hK => ?_) ?_
  ·go_simp
   go_at_call 29
   (with_reducible refine (HJ _ _ HR1).out.mono ?_)
   rintro e W2 ⟨rfl, hb⟩
   replace hS := And.intro (hS.1.trans (hb.mono hS.1.size)) (hS.2.call hb)
   replace HJW := HJW.call hb
   clear hb HR1
   refine hK.out _ _ hS (fun _ => ?_)
   clear hK K
   try simp only [Act.put, List.setIfInBounds_toArray, List.set_cons_zero, List.set_cons_succ]
   refine wpAnyH_take (oi := ⟨_, _, _, _, _, _⟩) (i := 8) (v := .agg #[.int .i64 123, .int .u64 (lo : Nat), .int .u64 (hi : Nat), .bool false]) rfl (by kernel_rfl) (by kernel_rfl) (by kernel_rfl) (fun _ _ _ h => h) (Or.inl ⟨by rfl, ?_⟩) (by assumption) ?_
   ·(intro W hSw; have x0 := hSw.2.at (k := 0) (v := .string s2) rfl; have x1 := hSw.2.at (k := 1) (v := .bool ff) rfl; have x2 := hSw.2.at (k := 2) (v := .int .i64 fb) rfl; have x3 := hSw.2.at (k := 3) (v := .bool tf) rfl; have x4 := hSw.2.at (k := 4) (v := .int .i64 n) rfl; have x5 := hSw.2.at (k := 5) (v := .bool sg) rfl; go_simp; try (with_reducible rfl))
   try simp only [Act.put, List.setIfInBounds_toArray, List.set_cons_zero, List.set_cons_succ]
   refine wpAnyH_take (oi := ⟨_, _, _, _, _, _⟩) (i := 9) (v := .int .i64 0) rfl (by kernel_rfl) (by kernel_rfl) (by kernel_rfl) (fun _ _ _ h => h) (Or.inl ⟨by rfl, ?_⟩) (by assumption) ?_
   ·(intro W hSw; have x0 := hSw.2.at (k := 0) (v := .string s2) rfl; have x1 := hSw.2.at (k := 1) (v := .bool ff) rfl; have x2 := hSw.2.at (k := 2) (v := .int .i64 fb) rfl; have x3 := hSw.2.at (k := 3) (v := .bool tf) rfl; have x4 := hSw.2.at (k := 4) (v := .int .i64 n) rfl; have x5 := hSw.2.at (k := 5) (v := .bool sg) rfl; go_simp; try (with_reducible rfl))
   try simp only [Act.put, List.setIfInBounds_toArray, List.set_cons_zero, List.set_cons_succ]
   refine wpAnyH_ready (rs := [10]) (by kernel_rfl) (by simp) ?_
   refine AllReadyH.cons (o := ⟨_, _, _, _, _, _⟩) rfl (fun K hK => ?_) ?_
   ·have r0 := HJW.at (k := 0) (v := .int .i64 0) rfl
    have r1 := HJW.at (k := 1) (v := .int .u64 0) rfl
    have r2 := HJW.at (k := 2) (v := .int .u64 0) rfl
    have r3 := HJW.at (k := 3) (v := .bool false) rfl
    have f0 := HJW.free 0
    have f1 := HJW.free 1
    have f2 := HJW.free 2
    have f3 := HJW.free 3
    go_simp
    clear r0 r1 r2 r3 f0 f1 f2 f3
    have hS2 := And.intro ((((hS.1.setCell (p := ⟨w.heap.size, 0, none⟩) (Nat.le_refl _) (.int .i64 123)).setCell (p := ⟨w.heap.size, 1, none⟩) (Nat.le_refl _) (.int .u64 (lo : Nat))).setCell (p := ⟨w.heap.size, 2, none⟩) (Nat.le_refl _) (.int .u64 (hi : Nat))).setCell (p := ⟨w.heap.size, 3, none⟩) (Nat.le_refl _) (.bool false)) ((((hS.2.far (o := 0) hne (.int .i64 123)).far (o := 1) hne (.int .u64 (lo : Nat))).far (o := 2) hne (.int .u64 (hi : Nat))).far (o := 3) hne (.bool false))
    have HJ2 := (((HJW.set (k := 0) (.int .i64 123)).set (k := 1) (.int .u64 (lo : Nat))).set (k := 2) (.int .u64 (hi : Nat))).set (k := 3) (.bool false)
    clear hS HJW
    have hS := hS2
    have HJW := HJ2
    clear hS2 HJ2
    generalize (((W2.setCell ⟨w.heap.size, 0, none⟩ (.int .i64 123)).setCell ⟨w.heap.size, 1, none⟩ (.int .u64 (lo : Nat))).setCell ⟨w.heap.size, 2, none⟩ (.int .u64 (hi : Nat))).setCell ⟨w.heap.size, 3, none⟩ (.bool false) = W3 at *
    refine hK.out _ _ hS (fun _ => ?_)
    clear hK K
    try simp only [Act.put, List.setIfInBounds_toArray, List.set_cons_zero, List.set_cons_succ]
    refine wpAnyH_take (oi := ⟨_, _, _, _, _, _⟩) (i := 11) (v := .int .i64 0) rfl (by kernel_rfl) (by kernel_rfl) (by kernel_rfl) (fun _ _ _ h => h) (Or.inl ⟨by rfl, ?_⟩) (by assumption) ?_
    ·(intro W hSw; have x0 := hSw.2.at (k := 0) (v := .string s2) rfl; have x1 := hSw.2.at (k := 1) (v := .bool ff) rfl; have x2 := hSw.2.at (k := 2) (v := .int .i64 fb) rfl; have x3 := hSw.2.at (k := 3) (v := .bool tf) rfl; have x4 := hSw.2.at (k := 4) (v := .int .i64 n) rfl; have x5 := hSw.2.at (k := 5) (v := .bool sg) rfl; go_simp; try (with_reducible rfl))
    try simp only [Act.put, List.setIfInBounds_toArray, List.set_cons_zero, List.set_cons_succ]
    refine wpAnyH_done (by kernel_rfl) ?_ _
    have r0 := HJW.at (k := 0) (v := .int .i64 123) rfl
    have r1 := HJW.at (k := 1) (v := .int .u64 (lo : Nat)) rfl
    have r2 := HJW.at (k := 2) (v := .int .u64 (hi : Nat)) rfl
    have r3 := HJW.at (k := 3) (v := .bool false) rfl
    go_wp2_with fail
    exact bodyPost_ret (v := .tuple #[.agg #[.int .i64 123, .int .u64 (lo : Nat), .int .u64 (hi : Nat), .bool false], .int .i64 0]) (by simp [results, Tryz.results20, go_sem, r0, r1, r2, r3]) rfl ⟨rfl, hS.1⟩
   exact AllReadyH.nil
  exact AllReadyH.nil
 exact AllReadyH.nil
end Go.Proofs.YtlhakbkdlgejpaaGreatDoor
namespace Go.Proofs.YtlhakbkdlgejpaaGreatDoor
open Go.RowKit
theorem widN_or (k : Nat) (hk : k ≤ 5) : (k = 0 ∧ widN k = [101, 120, 116, 101, 110, 100, 95, 108, 111, 119]) ∨ (k = 1 ∧ widN k = [101, 120, 116, 101, 110, 100, 95, 104, 105, 103, 104]) ∨ (k = 2 ∧ widN k = [101, 120, 116, 109, 117, 108, 95, 108, 111, 119]) ∨ (k = 3 ∧ widN k = [101, 120, 116, 109, 117, 108, 95, 104, 105, 103, 104]) ∨ (k = 4 ∧ widN k = [101, 120, 116, 97, 100, 100, 95, 112, 97, 105, 114, 119, 105, 115, 101]) ∨ (k = 5 ∧ widN k = [100, 111, 116]) := by
 rcases (show k = 0 ∨ k = 1 ∨ k = 2 ∨ k = 3 ∨ k = 4 ∨ k = 5 by omega) with rfl | rfl | rfl | rfl | rfl | rfl <;> decide
theorem widR_lt (k m : Nat) (X Y : Nat → Nat) (hX : ∀ i, X i < 18446744073709551616) (i : Nat) : widR k m X Y i < 18446744073709551616 := by
 unfold widR
 split
 ·exact hX _
 ·split
  ·exact hX _
  ·repeat' split
   all_goals exact Nat.mod_lt _ (by decide)
theorem widR_one (k m : Nat) (hk : k = 0 ∨ k = 1 ∨ k = 4) (X Y Y' : Nat → Nat) : widR k m X Y = widR k m X Y' := by
 funext i
 rcases hk with rfl | rfl | rfl <;> rfl
/-- What the lanes of two vectors come to, widened. -/
def widF (k fr m : Nat) (s : Bool) (alo ahi blo bhi : Nat) : Nat → Nat := widR k m (fun i => extF fr s (splitF fr alo ahi i)) (fun i => extF fr s (splitF fr blo bhi i))
theorem widF_lt (k fr m : Nat) (hn : Okn fr) (s : Bool) (alo ahi blo bhi i : Nat) : widF k fr m s alo ahi blo bhi i < 18446744073709551616 := widR_lt _ _ _ _ (fun i => extF_lt _ _ _ (splitF_u64 hn _ _ _)) i
set_option maxHeartbeats 4000000 in
theorem Do_wid1 (op : Int) (nm : List UInt8) (k fr tb : Nat) (hk : k = 0 ∨ k = 1 ∨ k = 4) (hfr : (fr = 8 ∧ tb = 16) ∨ (fr = 16 ∧ tb = 32) ∨ (fr = 32 ∧ tb = 64)) (ff tf : Bool) (s : Bool) (hnm : (lineL op).1 = str nm) (hpar : parV nm = insV (widN k) ff fr tf tb s) (hn1 : nm.length ≤ 1000) (hok : ((xsL nm).2 == 0) = false → 0 ≤ laL6 nm)
  (h64 : 64768 ≤ op) (hkn : knB (lineL op) = true) (him : (lineL op).2.1 = 0) (hla : laL op = [123]) (hlb : lbL op = [123])
  (alo ahi : Nat) (anl : Bool) (h1 : alo < 18446744073709551616) (h2 : ahi < 18446744073709551616)
  (w : World) (hg : Glob w) (va : Value) (ha : AR w va [(123, alo, ahi, anl)]) :
  Calls Tryz.prog 20 #[.int .i64 op, .slice none 0 0, va] w fun e w' => e = .returned (.tuple #[vv 123 (loF tb (widF k fr (cnt tb) s alo ahi alo ahi)) (hiF tb (widF k fr (cnt tb) s alo ahi alo ahi)) false, .int .i64 0]) ∧ Below w.heap.size w w' := by
 have hnt : Okn tb := by rcases hfr with ⟨_, rfl⟩ | ⟨_, rfl⟩ | ⟨_, rfl⟩ <;> decide
 have hnf : Okn fr := by rcases hfr with ⟨rfl, _⟩ | ⟨rfl, _⟩ | ⟨rfl, _⟩ <;> decide
 have hcc : cnt fr = 2 * cnt tb := by rcases hfr with ⟨rfl, rfl⟩ | ⟨rfl, rfl⟩ | ⟨rfl, rfl⟩ <;> decide
 have hc1 : 1 ≤ cnt tb := by rcases hfr with ⟨rfl, rfl⟩ | ⟨rfl, rfl⟩ | ⟨rfl, rfl⟩ <;> decide
 have hc16 : cnt fr ≤ 16 := by rcases hfr with ⟨rfl, rfl⟩ | ⟨rfl, rfl⟩ | ⟨rfl, rfl⟩ <;> decide
 have hk5 : k ≤ 5 := by omega
 refine Do_row op nm hnm (widN k) ff fr tf tb hnt s hpar hn1 hok hlb (.slice none 0 0) va w hg ?_ _ ?_ ?_
 ·intro W hW
  exact fits_says op h64 hkn [] (by rw [him]; rfl) (fun x hx => by cases hx) [(123, alo, ahi, anl)] (by rw [hla]; rfl) (by simp) (by simp) (.slice none 0 0) va W.heap.size W (hg.next hW) (ha.call hW) (World.ownsRow_nil _ _ _ _)
 ·intro i hi
  exact widF_lt k fr (cnt tb) hnf s alo ahi _ _ i
 ·intro W hW
  refine (vector_wid k (widN k) (widN_or k hk5) ff fr hnf tf tb s (.slice none 0 0) va (cnt fr) (cnt tb) hc1 hcc hc16 (splitF fr alo ahi) (fun _ => 0) (fun i => splitF_u64 hnf _ _ _) (fun i => by decide) W
   (fun W2 h => operand_v (widN k) ff fr hnf tf tb s va _ 0 alo ahi anl rfl h1 h2 W2 ((ha.call hW).call h))
   (fun W2 h => operand_none (widN k) ff fr hnf tf tb s va _ 1 (by simp) W2 ((ha.call hW).call h))).mono fun e w' ⟨v, he, hr, hb⟩ => ⟨v, he, ?_, hb⟩
  exact row_any hr (widR_one k _ hk _ _ _)
set_option maxHeartbeats 4000000 in
theorem Do_wid2 (op : Int) (nm : List UInt8) (k fr tb : Nat) (hk : k ≤ 5) (hfr : (fr = 8 ∧ tb = 16) ∨ (fr = 16 ∧ tb = 32) ∨ (fr = 32 ∧ tb = 64)) (ff tf : Bool) (s : Bool) (hnm : (lineL op).1 = str nm) (hpar : parV nm = insV (widN k) ff fr tf tb s) (hn1 : nm.length ≤ 1000) (hok : ((xsL nm).2 == 0) = false → 0 ≤ laL6 nm)
  (h64 : 64768 ≤ op) (hkn : knB (lineL op) = true) (him : (lineL op).2.1 = 0) (hla : laL op = [123, 123]) (hlb : lbL op = [123])
  (alo ahi blo bhi : Nat) (anl bnl : Bool) (h1 : alo < 18446744073709551616) (h2 : ahi < 18446744073709551616) (h3 : blo < 18446744073709551616) (h4 : bhi < 18446744073709551616)
  (w : World) (hg : Glob w) (va : Value) (ha : AR w va [(123, alo, ahi, anl), (123, blo, bhi, bnl)]) :
  Calls Tryz.prog 20 #[.int .i64 op, .slice none 0 0, va] w fun e w' => e = .returned (.tuple #[vv 123 (loF tb (widF k fr (cnt tb) s alo ahi blo bhi)) (hiF tb (widF k fr (cnt tb) s alo ahi blo bhi)) false, .int .i64 0]) ∧ Below w.heap.size w w' := by
 have hnt : Okn tb := by rcases hfr with ⟨_, rfl⟩ | ⟨_, rfl⟩ | ⟨_, rfl⟩ <;> decide
 have hnf : Okn fr := by rcases hfr with ⟨rfl, _⟩ | ⟨rfl, _⟩ | ⟨rfl, _⟩ <;> decide
 have hcc : cnt fr = 2 * cnt tb := by rcases hfr with ⟨rfl, rfl⟩ | ⟨rfl, rfl⟩ | ⟨rfl, rfl⟩ <;> decide
 have hc1 : 1 ≤ cnt tb := by rcases hfr with ⟨rfl, rfl⟩ | ⟨rfl, rfl⟩ | ⟨rfl, rfl⟩ <;> decide
 have hc16 : cnt fr ≤ 16 := by rcases hfr with ⟨rfl, rfl⟩ | ⟨rfl, rfl⟩ | ⟨rfl, rfl⟩ <;> decide
 have hk5 : k ≤ 5 := by omega
 refine Do_row op nm hnm (widN k) ff fr tf tb hnt s hpar hn1 hok hlb (.slice none 0 0) va w hg ?_ _ ?_ ?_
 ·intro W hW
  exact fits_says op h64 hkn [] (by rw [him]; rfl) (fun x hx => by cases hx) [(123, alo, ahi, anl), (123, blo, bhi, bnl)] (by rw [hla]; rfl) (by simp) (by simp) (.slice none 0 0) va W.heap.size W (hg.next hW) (ha.call hW) (World.ownsRow_nil _ _ _ _)
 ·intro i hi
  exact widF_lt k fr (cnt tb) hnf s alo ahi _ _ i
 ·intro W hW
  refine (vector_wid k (widN k) (widN_or k hk5) ff fr hnf tf tb s (.slice none 0 0) va (cnt fr) (cnt tb) hc1 hcc hc16 (splitF fr alo ahi) (splitF fr blo bhi) (fun i => splitF_u64 hnf _ _ _) (fun i => splitF_u64 hnf _ _ _) W
   (fun W2 h => operand_v (widN k) ff fr hnf tf tb s va _ 0 alo ahi anl rfl h1 h2 W2 ((ha.call hW).call h))
   (fun W2 h => operand_v (widN k) ff fr hnf tf tb s va _ 1 blo bhi bnl rfl h3 h4 W2 ((ha.call hW).call h))).mono fun e w' ⟨v, he, hr, hb⟩ => ⟨v, he, ?_, hb⟩
  exact hr
end Go.Proofs.YtlhakbkdlgejpaaGreatDoor
