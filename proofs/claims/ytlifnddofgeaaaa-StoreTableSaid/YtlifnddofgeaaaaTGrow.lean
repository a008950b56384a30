/-
  The contracts of the table's Grow. Condition: what lies behind the table.
-/
import Derived.Test.YtlifnddofgeaaaaTab2
set_option linter.unusedSimpArgs false
set_option linter.unusedVariables false
set_option maxRecDepth 100000
namespace Go.Proofs.Ytlifnddofgeaaaa
open Go.RowKit

set_option maxHeartbeats 1000000 in
theorem grow_t_no (B gm : Nat) (rf mn mx : Int) (has : Bool) (p : Option Addr) (N c n : Nat) (x0 : Int) (x1 x2 : Nat) (x3 : Bool) (xs : List Value) (w : World) (hm : TabA B gm rf mn mx has p N c xs w) (hN : N < 4611686018427387904) (hn : n < 18446744073709551616) (h3 : -9223372036854775808 ≤ mx) (h4 : mx < 9223372036854775808)
    (hr : roomB N n 10000 mx has = false) :
    Calls Try.prog 26 #[.pointer (some ⟨gm, 0, none⟩), .int .u64 n, .agg #[.int .i64 x0, .int .u64 x1, .int .u64 x2, .bool x3]] w fun e w' => e = .returned (.int .i64 (-1)) ∧ Below w.heap.size w w' := by
  have P : ∀ W, Hid (Calls Try.prog 35 #[.int .i64 N, .int .u64 n, .int .i64 10000, .agg #[.int .i64 mn, .int .i64 mx, .bool has]] W fun e w' => e = .returned (.bool false) ∧ Below W.heap.size W w') := fun W => hid (hr ▸ room_says N n 10000 mn mx has hN hn (by decide) (by decide) h3 h4 W)
  have hca := hm.box.alloc (.cells #[.int .i64 x0, .int .u64 x1, .int .u64 x2, .bool x3] 32)
  have b0 := hca.at (k := 0) (v := .int .i64 rf) rfl
  have b1 := hca.at (k := 1) (v := .int .i64 mn) rfl
  have b2 := hca.at (k := 2) (v := .int .i64 mx) rfl
  have b3 := hca.at (k := 3) (v := .bool has) rfl
  have b4 := hca.at (k := 4) (v := .slice p N c) rfl
  clear hm hr hca
  go_enter Try.func26, Try.ntmps26
  go_wp2_with (go_at_call 35; (with_reducible refine (P _).out.mono ?_); rintro e w1 ⟨rfl, hb⟩; have HB := hid hb; clear hb)
  go_ret
  exact ⟨rfl, ((Below.refl _ _).alloc (Nat.le_refl _) _).trans (HB.out.mono (by simp))⟩
theorem splice_end (xs : List Value) (A C : List Value) (k : Nat) (hk : xs.length = k) (hA : A.length = C.length) : splice (xs ++ A) k C = xs ++ C := by
  unfold splice
  rw [← hk, List.take_left, ← hA, ← List.length_append, List.drop_length, List.append_nil]
set_option maxHeartbeats 2000000 in
theorem grow_t_yes (B gm : Nat) (rf mn mx : Int) (has : Bool) (p : Option Addr) (N c n : Nat) (x0 : Int) (x1 x2 : Nat) (x3 : Bool) (xs : List Value) (w : World) (hB : B ≤ w.heap.size) (hm : TabA B gm rf mn mx has p N c xs w) (hN : N < 4611686018427387904) (hn : n < 18446744073709551616) (h3 : -9223372036854775808 ≤ mx) (h4 : mx < 9223372036854775808)
    (hr : roomB N n 10000 mx has = true) :
    Calls Try.prog 26 #[.pointer (some ⟨gm, 0, none⟩), .int .u64 n, .agg #[.int .i64 x0, .int .u64 x1, .int .u64 x2, .bool x3]] w fun e w' => ∃ g, e = .returned (.int .i64 N) ∧ TabA B gm rf mn mx has (some ⟨g, 0, none⟩) (N + n) (N + n) (xs ++ repC [.int .i64 x0, .int .u64 x1, .int .u64 x2, .bool x3] n) w' ∧ KP (some gm) w w' ∧ w.heap.size ≤ g := by
  have hnk : (N : Int) + n ≤ 10000 := by
    have h : (N : Int) + n ≤ limI 10000 mx has := by simpa [roomB] using hr
    have h5 : limI 10000 mx has ≤ 10000 := by
      unfold limI
      repeat' split
      all_goals omega
    omega
  have P : ∀ W, Hid (Calls Try.prog 35 #[.int .i64 N, .int .u64 n, .int .i64 10000, .agg #[.int .i64 mn, .int .i64 mx, .bool has]] W fun e w' => e = .returned (.bool true) ∧ Below W.heap.size W w') := fun W => hid (hr ▸ room_says N n 10000 mn mx has hN hn (by decide) (by decide) h3 h4 W)
  have hal := (Below.refl w.heap.size w).alloc (Nat.le_refl _) (.cells #[.int .i64 x0, .int .u64 x1, .int .u64 x2, .bool x3] 32)
  have hca := hm.box.alloc (.cells #[.int .i64 x0, .int .u64 x1, .int .u64 x2, .bool x3] 32)
  have b0 := hca.at (k := 0) (v := .int .i64 rf) rfl
  have b1 := hca.at (k := 1) (v := .int .i64 mn) rfl
  have b2 := hca.at (k := 2) (v := .int .i64 mx) rfl
  have b3 := hca.at (k := 3) (v := .bool has) rfl
  have b4 := hca.at (k := 4) (v := .slice p N c) rfl
  obtain ⟨K, hK⟩ : ∃ K, K = N + n := ⟨_, rfl⟩
  have PL : ∀ W, Below w.heap.size w W → Hid (Calls Try.prog 39 #[.slice p N c, .int .u64 n] W fun e w' => ∃ g, e = .returned (.slice (some ⟨g, 0, none⟩) K K) ∧ W.heap.size ≤ g ∧ Row W.heap.size 32 4 (some ⟨g, 0, none⟩) K K (xs ++ repC [.int .i64 0, .int .u64 0, .int .u64 0, .bool false] n) w' ∧ Below W.heap.size W w') := fun W hb =>
    long_v p N c n K xs W (hm.row.src.below hb) hm.row.cap.1 (by have := hm.row.cap.2; unfold maxLen at this; omega) hK.symm (by omega)
  have hxl := hm.row.own.1
  have PF : ∀ g W, Row B 32 4 (some ⟨g, 0, none⟩) K K (xs ++ repC [.int .i64 0, .int .u64 0, .int .u64 0, .bool false] n) W → Calls Try.prog 36 #[.slice (some ⟨g, 0, none⟩) K K, .int .u64 N, .agg #[.int .i64 x0, .int .u64 x1, .int .u64 x2, .bool x3], .int .u64 n] W fun e w' => e = .returned (.bool true) ∧ Row B 32 4 (some ⟨g, 0, none⟩) K K (xs ++ repC [.int .i64 x0, .int .u64 x1, .int .u64 x2, .bool x3] n) w' ∧ KP (some g) W w' := by
    intro g W hrow
    refine (fill_v B (some ⟨g, 0, none⟩) K K N n x0 x1 x2 x3 _ W hrow (by omega) hn).mono fun e w' he => ?_
    rw [okF_yes (by omega)] at he
    obtain ⟨rfl, hr2, hk2⟩ := he
    refine ⟨rfl, ?_, hk2⟩
    have e1 := splice_end xs (repC [.int .i64 0, .int .u64 0, .int .u64 0, .bool false] n) (repC [.int .i64 x0, .int .u64 x1, .int .u64 x2, .bool x3] n) (N * 4) hxl (by rw [repC_len, repC_len]; rfl)
    rw [fillP, if_pos rfl, e1] at hr2
    exact hr2
  rw [← hK]
  have HX0 := hid (CA.new w #[.int .i64 x0, .int .u64 x1, .int .u64 x2, .bool x3] 32)
  have HK0 := hid ((KP.refl (some gm) w).alloc (.cells #[.int .i64 x0, .int .u64 x1, .int .u64 x2, .bool x3] 32))
  have HCM := hid hca
  have HGL := hid hm.box.lt
  have HBW := hid hB
  have hN62 : N < 9223372036854775808 := by omega
  have HWN : Hid (IntKind.u64.wrap (N : Int) = N) := by
    show _ = _
    first | go_num | (simp [IntKind.wrap, IntKind.signed, IntKind.bits]; omega) | (unfold IntKind.wrap; simp; omega)
  clear hm hr hca hnk hal hxl hB hK
  go_enter Try.func26, Try.ntmps26
  go_upto_region 7 with (first
    | (go_at_call 35; (with_reducible refine (P _).out.mono ?_); rintro e w1 ⟨rfl, hb⟩; have HB := hid hb; have hc1 := HCM.out.below hb HCM.out.lt; have c4 := hc1.at (k := 4) (v := .slice p N c) rfl; have HC1 := hid hc1; have PM := PL w1 (((Below.refl w.heap.size w).alloc (Nat.le_refl _) _).trans (hb.mono (by simp))); clear hb PL hc1 P b0 b1 b2 b3 b4)
    | (go_at_call 39; (with_reducible refine PM.out.mono ?_); rintro e w2 ⟨g, rfl, hg, hrw, hb2⟩; have hc2 := HC1.out.below hb2 HC1.out.lt; have d4 := hc2.at (k := 4) (v := .slice p N c) rfl; have f4 := hc2.free 4; have HC2 := hid hc2; have HG := hid hg; have HR := hid hrw; have HB2 := hid hb2; clear hg hrw hb2 hc2 PM))
  have hwz : w.heap.size < w1.heap.size := Nat.lt_of_lt_of_le (by simp) HB.out.size
  have hgm : g ≠ gm := by have := HG.out; have := HC1.out.lt; omega
  have hgx : g ≠ w.heap.size := by have := HG.out; omega
  have hgx2 : gm ≠ w.heap.size := by have := HGL.out; omega
  have HX2 : Hid (CA w.heap.size #[.int .i64 x0, .int .u64 x1, .int .u64 x2, .bool x3] 32 (w2.setCell ⟨gm, 4, none⟩ (.slice (some ⟨g, 0, none⟩) K K))) := (((HX0.out.below HB.out HX0.out.lt).below HB2.out (by omega)).keep ((KP.refl (some gm) _).setCell (.inl rfl) _) (by simpa using hgx2))
  have HC3 : Hid (CA gm #[.int .i64 rf, .int .i64 mn, .int .i64 mx, .bool has, .slice (some ⟨g, 0, none⟩) K K] 54 (w2.setCell ⟨gm, 4, none⟩ (.slice (some ⟨g, 0, none⟩) K K))) := HC2.out.set (k := 4) _
  have HR3 : Hid (Row B 32 4 (some ⟨g, 0, none⟩) K K (xs ++ repC [.int .i64 0, .int .u64 0, .int .u64 0, .bool false] n) (w2.setCell ⟨gm, 4, none⟩ (.slice (some ⟨g, 0, none⟩) K K))) := (HR.out.mono (by have := HBW.out; omega)).keep ((KP.refl (some gm) _).setCell (.inl rfl) _) (by rintro _ _ ⟨⟩ ⟨⟩; exact hgm rfl)
  have HKA : Hid (KP (some gm) w (w2.setCell ⟨gm, 4, none⟩ (.slice (some ⟨g, 0, none⟩) K K))) := ((HK0.out.trans (KP.of HB.out)).trans (KP.of HB2.out)).setCell (.inl rfl) _
  have HGE : Hid (w.heap.size ≤ g) := by have := HG.out; show _ ≤ _; omega
  have HN1 := hid hgm
  have HN2 := hid hgx
  have hS : KP (some g) (w2.setCell ⟨gm, 4, none⟩ (.slice (some ⟨g, 0, none⟩) K K)) (w2.setCell ⟨gm, 4, none⟩ (.slice (some ⟨g, 0, none⟩) K K)).drew ∧ CA gm #[.int .i64 rf, .int .i64 mn, .int .i64 mx, .bool has, .slice (some ⟨g, 0, none⟩) K K] 54 (w2.setCell ⟨gm, 4, none⟩ (.slice (some ⟨g, 0, none⟩) K K)).drew ∧ CA w.heap.size #[.int .i64 x0, .int .u64 x1, .int .u64 x2, .bool x3] 32 (w2.setCell ⟨gm, 4, none⟩ (.slice (some ⟨g, 0, none⟩) K K)).drew := ⟨(KP.refl (some g) _).drew, HC3.out, HX2.out⟩
  have HRW : Hid (Row B 32 4 (some ⟨g, 0, none⟩) K K (xs ++ repC [.int .i64 0, .int .u64 0, .int .u64 0, .bool false] n) (w2.setCell ⟨gm, 4, none⟩ (.slice (some ⟨g, 0, none⟩) K K)).drew) := HR3.out.drew
  clear HX0 HX2 HC3 HR3 HK0 HCM HB HB2 HC1 HC2 HR HG c4 d4 f4 hgm hgx hgx2 hwz
  refine wp_region_held_drew (S := fun W => KP (some g) (w2.setCell ⟨gm, 4, none⟩ (.slice (some ⟨g, 0, none⟩) K K)) W ∧ CA gm #[.int .i64 rf, .int .i64 mn, .int .i64 mx, .bool has, .slice (some ⟨g, 0, none⟩) K K] 54 W ∧ CA w.heap.size #[.int .i64 x0, .int .u64 x1, .int .u64 x2, .bool x3] 32 W) (by kernel_rfl) hS (fun _ => ?_)
  generalize hW0 : (w2.setCell ⟨gm, 4, none⟩ (.slice (some ⟨g, 0, none⟩) K K)) = W0 at *
  generalize W0.drew = W at *
  clear hW0
  refine wpAnyH_take (oi := ⟨_, _, _, _, _, _⟩) (i := 0) (v := .pointer (some ⟨gm, 0, none⟩)) rfl (by kernel_rfl) (by kernel_rfl) (by kernel_rfl) (fun _ _ _ h => h) (Or.inl ⟨by rfl, ?_⟩) (by assumption) ?_
  · (intro W hSw; (have y4 := hSw.2.1.at (k := 4) rfl); (have x0 := hSw.2.2.at (k := 0) rfl); (have x1 := hSw.2.2.at (k := 1) rfl); (have x2 := hSw.2.2.at (k := 2) rfl); (have x3 := hSw.2.2.at (k := 3) rfl); clear hSw; (have wn := HWN.out); go_simp; try (exact wrap_b8 _); try (with_reducible rfl))
  try simp only [Act.put, List.setIfInBounds_toArray, List.set_cons_zero, List.set_cons_succ]
  refine wpAnyH_take (oi := ⟨_, _, _, _, _, _⟩) (i := 1) (v := .pointer (some ⟨gm, 0, none⟩)) rfl (by kernel_rfl) (by kernel_rfl) (by kernel_rfl) (fun _ _ _ h => h) (Or.inl ⟨by rfl, ?_⟩) (by assumption) ?_
  · (intro W hSw; (have y4 := hSw.2.1.at (k := 4) rfl); (have x0 := hSw.2.2.at (k := 0) rfl); (have x1 := hSw.2.2.at (k := 1) rfl); (have x2 := hSw.2.2.at (k := 2) rfl); (have x3 := hSw.2.2.at (k := 3) rfl); clear hSw; (have wn := HWN.out); go_simp; try (exact wrap_b8 _); try (with_reducible rfl))
  try simp only [Act.put, List.setIfInBounds_toArray, List.set_cons_zero, List.set_cons_succ]
  refine wpAnyH_take (oi := ⟨_, _, _, _, _, _⟩) (i := 2) (v := .pointer (some ⟨gm, 4, none⟩)) rfl (by kernel_rfl) (by kernel_rfl) (by kernel_rfl) (fun _ _ _ h => h) (Or.inl ⟨by rfl, ?_⟩) (by assumption) ?_
  · (intro W hSw; (have y4 := hSw.2.1.at (k := 4) rfl); (have x0 := hSw.2.2.at (k := 0) rfl); (have x1 := hSw.2.2.at (k := 1) rfl); (have x2 := hSw.2.2.at (k := 2) rfl); (have x3 := hSw.2.2.at (k := 3) rfl); clear hSw; (have wn := HWN.out); go_simp; try (exact wrap_b8 _); try (with_reducible rfl))
  try simp only [Act.put, List.setIfInBounds_toArray, List.set_cons_zero, List.set_cons_succ]
  refine wpAnyH_take (oi := ⟨_, _, _, _, _, _⟩) (i := 3) (v := .slice (some ⟨g, 0, none⟩) K K) rfl (by kernel_rfl) (by kernel_rfl) (by kernel_rfl) (fun _ _ _ h => h) (Or.inl ⟨by rfl, ?_⟩) (by assumption) ?_
  · (intro W hSw; (have y4 := hSw.2.1.at (k := 4) rfl); (have x0 := hSw.2.2.at (k := 0) rfl); (have x1 := hSw.2.2.at (k := 1) rfl); (have x2 := hSw.2.2.at (k := 2) rfl); (have x3 := hSw.2.2.at (k := 3) rfl); clear hSw; (have wn := HWN.out); go_simp; try (exact wrap_b8 _); try (with_reducible rfl))
  try simp only [Act.put, List.setIfInBounds_toArray, List.set_cons_zero, List.set_cons_succ]
  refine wpAnyH_take (oi := ⟨_, _, _, _, _, _⟩) (i := 4) (v := .int .i64 N) rfl (by kernel_rfl) (by kernel_rfl) (by kernel_rfl) (fun _ _ _ h => h) (Or.inl ⟨by rfl, ?_⟩) (by assumption) ?_
  · (intro W hSw; (have y4 := hSw.2.1.at (k := 4) rfl); (have x0 := hSw.2.2.at (k := 0) rfl); (have x1 := hSw.2.2.at (k := 1) rfl); (have x2 := hSw.2.2.at (k := 2) rfl); (have x3 := hSw.2.2.at (k := 3) rfl); clear hSw; (have wn := HWN.out); go_simp; try (exact wrap_b8 _); try (with_reducible rfl))
  try simp only [Act.put, List.setIfInBounds_toArray, List.set_cons_zero, List.set_cons_succ]
  refine wpAnyH_take (oi := ⟨_, _, _, _, _, _⟩) (i := 5) (v := .int .u64 N) rfl (by kernel_rfl) (by kernel_rfl) (by kernel_rfl) (fun _ _ _ h => h) (Or.inl ⟨by rfl, ?_⟩) (by assumption) ?_
  · (intro W hSw; (have y4 := hSw.2.1.at (k := 4) rfl); (have x0 := hSw.2.2.at (k := 0) rfl); (have x1 := hSw.2.2.at (k := 1) rfl); (have x2 := hSw.2.2.at (k := 2) rfl); (have x3 := hSw.2.2.at (k := 3) rfl); clear hSw; (have wn := HWN.out); go_simp; try (exact wrap_b8 _); try (with_reducible rfl))
  try simp only [Act.put, List.setIfInBounds_toArray, List.set_cons_zero, List.set_cons_succ]
  refine wpAnyH_take (oi := ⟨_, _, _, _, _, _⟩) (i := 6) (v := .agg #[.int .i64 x0, .int .u64 x1, .int .u64 x2, .bool x3]) rfl (by kernel_rfl) (by kernel_rfl) (by kernel_rfl) (fun _ _ _ h => h) (Or.inl ⟨by rfl, ?_⟩) (by assumption) ?_
  · (intro W hSw; (have y4 := hSw.2.1.at (k := 4) rfl); (have x0 := hSw.2.2.at (k := 0) rfl); (have x1 := hSw.2.2.at (k := 1) rfl); (have x2 := hSw.2.2.at (k := 2) rfl); (have x3 := hSw.2.2.at (k := 3) rfl); clear hSw; (have wn := HWN.out); go_simp; try (exact wrap_b8 _); try (with_reducible rfl))
  try simp only [Act.put, List.setIfInBounds_toArray, List.set_cons_zero, List.set_cons_succ]
  refine wpAnyH_take (oi := ⟨_, _, _, _, _, _⟩) (i := 7) (v := .int .u64 n) rfl (by kernel_rfl) (by kernel_rfl) (by kernel_rfl) (fun _ _ _ h => h) (Or.inl ⟨by rfl, ?_⟩) (by assumption) ?_
  · (intro W hSw; (have y4 := hSw.2.1.at (k := 4) rfl); (have x0 := hSw.2.2.at (k := 0) rfl); (have x1 := hSw.2.2.at (k := 1) rfl); (have x2 := hSw.2.2.at (k := 2) rfl); (have x3 := hSw.2.2.at (k := 3) rfl); clear hSw; (have wn := HWN.out); go_simp; try (exact wrap_b8 _); try (with_reducible rfl))
  try simp only [Act.put, List.setIfInBounds_toArray, List.set_cons_zero, List.set_cons_succ]
  refine wpAnyH_ready (rs := [8]) (by kernel_rfl) (by simp) ?_
  refine AllReadyH.cons (o := ⟨_, _, _, _, _, _⟩) rfl (fun K hK => ?_) ?_
  · go_simp
    go_at_call 36
    (with_reducible refine (PF g W HRW.out).mono ?_)
    rintro e W1 ⟨rfl, hr1, hk1⟩
    replace hS := And.intro (hS.1.trans hk1) (And.intro (hS.2.1.keep hk1 (by simpa using HN1.out)) (hS.2.2.keep hk1 (by simpa using HN2.out)))
    have HR1 := hid hr1
    clear hr1 hk1
    refine hK.out _ _ hS (fun _ => ?_)
    clear hK K
    try simp only [Act.put, List.setIfInBounds_toArray, List.set_cons_zero, List.set_cons_succ]
    refine wpAnyH_done (by kernel_rfl) ?_ _
    have HF := hid hS
    clear hS
    go_wp2
    go_ret
    refine ⟨g, rfl, ⟨HF.out.2.1, HR1.out⟩, ?_, HGE.out⟩
    have h1 := HKA.out
    have h2 := HF.out.1
    refine ⟨h2.os.trans h1.os, h2.tape.trans h1.tape, h2.output.trans h1.output, Nat.le_trans h1.size h2.size, fun k hk hc => ?_⟩
    rw [h2.block k (Nat.lt_of_lt_of_le hk h1.size) (by have := HGE.out; intro e; cases e; omega)]
    exact h1.block k hk hc
  exact AllReadyH.nil
end Go.Proofs.Ytlifnddofgeaaaa
