/-
  The law of memories under a script (StoreMem), walked to its end: it answers true. Condition: what lies behind the script.
-/
import Derived.Test.YtlifnddofgeaaaaLGrows
import Derived.Test.YtlifnddofgeaaaaOpenA
set_option linter.unusedSimpArgs false
set_option linter.unusedVariables false
set_option maxRecDepth 100000
namespace Go.Proofs.Ytlifnddofgeaaaa
open Go.RowKit

theorem Scr.below {p : Option Addr} {n b o : Nat} {E : Nat → EAct} {w w' : World} (h : Scr p n b o E w) (hb : Below w.heap.size w w') (i : Nat) (hi : i < n) : (∀ k z, (E i).cs[k]? = some z → w'.cell? ⟨b, o + i * 10 + k, none⟩ = some z) ∧ (E i).ok w' := by
  obtain ⟨h1, h2⟩ := h.at_ (by omega)
  refine ⟨fun k z hz => (hb.cell (p := ⟨b, o + i * 10 + k, none⟩) h2).trans (h.cell i hi k z hz), ?_⟩
  have h3 := h.ok i hi
  exact ⟨h3.k, h3.a, h3.b, h3.n, h3.c, h3.s.below hb⟩
theorem Row.lt' {B T s n c : Nat} {p : Option Addr} {xs : List Value} {w : World} (h : Row B T s p n c xs w) (g : Nat) (hg : blk p = some g) : g < w.heap.size := by
  cases p with
  | none => cases hg
  | some a => exact (h.own.lt g (by simpa [Value.ownBlock, blk] using hg)).2
theorem Src.below2 {s n : Nat} {p : Option Addr} {xs : List Value} {w w' : World} (h : Src s p n xs w) (hb : Below w.heap.size w w') : Src s p n xs w' := h.below hb
theorem Sl.below2 {s n c : Nat} {p : Option Addr} {xs : List Value} {w w' : World} (h : Sl s p n c xs w) (hb : Below w.heap.size w w') : Sl s p n c xs w' := h.below hb
theorem and_255 (b : Int) : ∃ k : Nat, k ≤ 255 ∧ Go.bits .and .u64 b 255 = (k : Int) := by
  have h : (BitVec.ofInt 64 b &&& BitVec.ofInt 64 255).toNat ≤ 255 := by
    rw [BitVec.toNat_and, show (BitVec.ofInt 64 255).toNat = 255 by decide]
    exact Nat.and_le_right
  refine ⟨(BitVec.ofInt 64 b &&& BitVec.ofInt 64 255).toNat, h, ?_⟩
  show IntKind.u64.wrap (((BitVec.ofInt 64 b &&& BitVec.ofInt 64 255).toNat : Nat) : Int) = _
  rw [IntKind.wrap_u64]
  omega
theorem xor_u8 (a : UInt8) : ∃ u : UInt8, Go.bits .xor .u8 (a.toNat : Int) 255 = (u.toNat : Int) := by
  refine ⟨UInt8.ofNat (BitVec.ofInt 8 (a.toNat : Int) ^^^ BitVec.ofInt 8 255).toNat, ?_⟩
  show IntKind.u8.wrap (((BitVec.ofInt 8 (a.toNat : Int) ^^^ BitVec.ofInt 8 255).toNat : Nat) : Int) = _
  rw [IntKind.wrap_u8, UInt8.toNat_ofNat']
  omega
theorem Sl.drew {s n c : Nat} {p : Option Addr} {xs : List Value} {w : World} (h : Sl s p n c xs w) : Sl s p n c xs w.drew := ⟨h.src.drew, h.cap, h.big, h.nil⟩
/-- Where a row of the document's lies: where it lay, or in what there is. -/
def NL (w' : World) (p p' : Option Addr) : Prop := ∀ g, blk p' = some g → blk p = some g ∨ g < w'.heap.size
theorem rput_b2 (p sp : Option Addr) (N c M sc to_ from_ n : Nat) (xs ys : List Value) (w : World) (hm : Sl 1 p N c xs w) (hs : Sl 1 sp M sc ys w) (hN2 : N ≤ 100000000000) (hto : to_ < 18446744073709551616) (hfr : from_ < 18446744073709551616) (hn : n < 18446744073709551616) :
    Calls Try.prog 10 #[.slice p N c, .int .u64 to_, .int .u64 from_, .int .u64 n, .slice sp M sc] w fun e w' => ∃ p' c', e = .returned (.tuple #[.slice p' N c', .int .i64 (errP (okP N M to_ from_ n) 44)]) ∧ Sl 1 p' N c' (putP (okP N M to_ from_ n) 1 xs ys to_ from_ n) w' ∧ Below w.heap.size w w' ∧ NB w p p' ∧ NL w' p p' := by
  by_cases h : to_ + n ≤ N ∧ from_ + n ≤ M
  · rw [okP_yes h.1 h.2]
    refine (put_b_yes p sp N c M sc to_ from_ n xs ys w hm hs hN2 h.1 h.2).mono fun e w' he => ?_
    obtain ⟨p', c', e1, e2, e3, e4⟩ := he
    exact ⟨p', c', e1, e2.sl, e3, NB.new e4, fun g hg => .inr (e2.lt' g hg)⟩
  · rw [okP_no h]
    refine (put_b_no p sp N c M sc to_ from_ n (by have := hm.cap; have := hm.big; omega) (by have := hs.cap; have := hs.big; omega) hto hfr hn h w).mono fun e w' he => ?_
    obtain ⟨rfl, rfl⟩ := he
    exact ⟨p, c, rfl, hm, Below.refl _ _, NB.refl _ _, fun g hg => .inl hg⟩
theorem rfill_b2 (p : Option Addr) (N c at_ n : Nat) (x : Int) (xs : List Value) (w : World) (hm : Sl 1 p N c xs w) (hN2 : N ≤ 100000000000) (ha : at_ < 18446744073709551616) (hn : n < 18446744073709551616) :
    Calls Try.prog 12 #[.slice p N c, .int .u64 at_, .int .u8 x, .int .u64 n] w fun e w' => ∃ p' c', e = .returned (.tuple #[.slice p' N c', .int .i64 (errP (okF N at_ n) 44)]) ∧ Sl 1 p' N c' (fillP (okF N at_ n) 1 xs [.int .u8 x] at_ n) w' ∧ Below w.heap.size w w' ∧ NB w p p' ∧ NL w' p p' := by
  by_cases h : at_ + n ≤ N
  · rw [okF_yes h]
    refine (rfill_yes p N c at_ n x xs w hm hN2 h).mono fun e w' he => ?_
    obtain ⟨p', c', e1, e2, e3, e4⟩ := he
    refine ⟨p', c', e1, ?_, e3, NB.new e4, fun g hg => .inr (e2.lt' g hg)⟩
    rw [fillP, if_pos rfl, Nat.mul_one]
    exact e2.sl
  · rw [okF_no h]
    refine (rfill_no p N c at_ n x (by have := hm.cap; have := hm.big; omega) ha hn h w).mono fun e w' he => ?_
    obtain ⟨rfl, rfl⟩ := he
    exact ⟨p, c, rfl, hm, Below.refl _ _, NB.refl _ _, fun g hg => .inl hg⟩
theorem rgrow_b2 (p : Option Addr) (k c n : Nat) (most mn mx : Int) (has : Bool) (xs : List Value) (w : World) (hm : Sl 1 p (65536 * k) c xs w) (hk0 : k ≤ 65536) (hn : n < 18446744073709551616) (h1 : -9223372036854775808 ≤ most) (h2 : most < 9223372036854775808) (h3 : -9223372036854775808 ≤ mx) (h4 : mx < 9223372036854775808) (ok : Bool) (hr : roomB k n (lim65 most) mx has = ok) :
    Calls Try.prog 18 #[.slice p (65536 * k) c, .agg #[.int .i64 mn, .int .i64 mx, .bool has], .int .u64 n, .int .i64 most] w fun e w' => ∃ p' c', e = .returned (.tuple #[.slice p' (65536 * gN ok k (k + n)) c', .int .i64 (gE ok k)]) ∧ Sl 1 p' (65536 * gN ok k (k + n)) c' (gX ok xs (repC [.int .u8 0] (65536 * n))) w' ∧ Below w.heap.size w w' ∧ NB w p p' ∧ NL w' p p' := by
  cases ok with
  | true =>
    refine (rgrow_yes p k c n most mn mx has xs w hm hk0 hn h1 h2 h3 h4 hr).mono fun e w' he => ?_
    obtain ⟨p', c', e1, e2, e3, e4⟩ := he
    exact ⟨p', c', e1, e2.sl, e3, NB.new e4, fun g hg => .inr (e2.lt' g hg)⟩
  | false =>
    refine (rgrow_no p k c n most mn mx has w hk0 hn h1 h2 h3 h4 hr).mono fun e w' he => ?_
    obtain ⟨e1, e2⟩ := he
    exact ⟨p, c, e1, hm.below e2, e2, NB.refl _ _, fun g hg => .inl hg⟩
theorem MemA.keepN {B gm N c : Nat} {mn mx : Int} {has : Bool} {p : Option Addr} {xs : List Value} {w w' : World} (h : MemA B gm mn mx has p N c xs w) (hb : Below w.heap.size w w') : MemA B gm mn mx has p N c xs w' := h.below hb
set_option maxHeartbeats 40000000 in
theorem law_Mem (pages : Int) (mn mx : Int) (has : Bool) (h3 : -9223372036854775808 ≤ mx) (h4 : mx < 9223372036854775808) (p : Option Addr) (n c b o : Nat) (E : Nat → EAct) (most : Int) (h1 : -9223372036854775808 ≤ most) (h2 : most < 9223372036854775808) (w : World) (hn : n ≤ maxLen) (hS : Scr p n b o E w) :
    Calls Try.prog 3 #[.int .i64 pages, .agg #[.int .i64 mn, .int .i64 mx, .bool has], .slice p n c, .int .i64 most] w fun e w' => e = .returned (.bool true) ∧ Below w.heap.size w w' := by
  have HA := fun W => hid (awake_says W)
  have HL0 := hid (CA.new w #[.int .i64 mn, .int .i64 mx, .bool has] 23)
  have HB0 := hid ((Below.refl w.heap.size w).alloc (Nat.le_refl _) (.cells #[.int .i64 mn, .int .i64 mx, .bool has] 23))
  have HS := hid hS
  have HN : Hid (n ≤ maxLen) := hn
  have hn62 : (n : Int) < 9223372036854775808 := by unfold maxLen at hn; omega
  clear hS hn
  have hcase : pages < 0 ∨ 2 < pages ∨ ∃ k : Nat, pages = k ∧ k ≤ 2 := by
    rcases (show pages < 0 ∨ 2 < pages ∨ (0 ≤ pages ∧ pages ≤ 2) by omega) with h | h | ⟨h, h'⟩
    · exact .inl h
    · exact .inr (.inl h)
    · exact .inr (.inr ⟨pages.toNat, by omega, by omega⟩)
  rcases hcase with hp | hp | ⟨k, rfl, hk2⟩
  · go_enter Try.func3, Try.ntmps3
    go_wp2_with (go_at_call 8; (with_reducible refine (HA _).out.mono ?_); rintro e w1 ⟨rfl, hb1⟩; have HB1 := hid (HB0.out.trans (hb1.mono HB0.out.size)); clear hb1)
    go_ret
    exact ⟨rfl, HB1.out⟩
  · have hp0 : ¬ pages < 0 := by omega
    go_enter Try.func3, Try.ntmps3
    go_wp2_with (go_at_call 8; (with_reducible refine (HA _).out.mono ?_); rintro e w1 ⟨rfl, hb1⟩; have HB1 := hid (HB0.out.trans (hb1.mono HB0.out.size)); clear hb1)
    go_ret
    exact ⟨rfl, HB1.out⟩
  · obtain ⟨i0, hi0, hz0, hz1, hz2⟩ := info_parts info5
    obtain ⟨M, hM⟩ : ∃ M, M = 65536 * k := ⟨_, rfl⟩
    have he : (k : Int) * 65536 = (M : Int) := by omega
    have HMK := hid hM
    have HM1 : Hid (M ≤ 1000000000) := by show _ ≤ _; omega
    have HWM : Hid (IntKind.i64.wrap (M : Int) = (M : Int)) := by show _ = _; rw [IntKind.wrap_i64]; omega
    have HK2 := hid hk2
    have hk0 : ¬ 2 < k := by omega
    have hkd : decide ((2 : Int) < (k : Int)) = false := by simp; omega
    have hkn : decide ((k : Int) < 0) = false := by simp
    clear hM hk2
    go_enter Try.func3, Try.ntmps3
    go_upto_region 6 with (go_at_call 8; (with_reducible refine (HA _).out.mono ?_); rintro e w1 ⟨rfl, hb1⟩; have HB1 := hid (HB0.out.trans (hb1.mono HB0.out.size)); have HL1 := hid (HL0.out.below hb1 HL0.out.lt); clear hb1)
    have hS : CA w.heap.size #[.int .i64 mn, .int .i64 mx, .bool has] 23 w1.drew ∧ Below w.heap.size w w1.drew := ⟨HL1.out, ⟨HB1.out.os, HB1.out.tape, HB1.out.output, HB1.out.size, HB1.out.block⟩⟩
    refine wp_region_held_drew (S := fun W => CA w.heap.size #[.int .i64 mn, .int .i64 mx, .bool has] 23 W ∧ Below w.heap.size w W) (by kernel_rfl) hS (fun _ => ?_)
    clear HL0 HB0 HA HL1 HB1 hk0 hkd hkn
    generalize w1.drew = W at *
    refine wpAnyH_take (oi := ⟨_, _, _, _, _, _⟩) (i := 0) (v := .agg #[.int .i64 mn, .int .i64 mx, .bool has]) rfl (by kernel_rfl) (by kernel_rfl) (by kernel_rfl) (fun _ _ _ h => h) (Or.inl ⟨by rfl, ?_⟩) (by assumption) ?_
    · (intro W hSw; (have l0 := hSw.1.at (k := 0) rfl); (have l1 := hSw.1.at (k := 1) rfl); (have l2 := hSw.1.at (k := 2) rfl); clear hSw; (have wm := HWM.out); go_simp; try (exact wrap_b8 _); try (with_reducible rfl))
    try simp only [Act.put, List.setIfInBounds_toArray, List.set_cons_zero, List.set_cons_succ]
    refine wpAnyH_take (oi := ⟨_, _, _, _, _, _⟩) (i := 1) (v := .int .i64 k) rfl (by kernel_rfl) (by kernel_rfl) (by kernel_rfl) (fun _ _ _ h => h) (Or.inl ⟨by rfl, ?_⟩) (by assumption) ?_
    · (intro W hSw; (have l0 := hSw.1.at (k := 0) rfl); (have l1 := hSw.1.at (k := 1) rfl); (have l2 := hSw.1.at (k := 2) rfl); clear hSw; (have wm := HWM.out); go_simp; try (exact wrap_b8 _); try (with_reducible rfl))
    try simp only [Act.put, List.setIfInBounds_toArray, List.set_cons_zero, List.set_cons_succ]
    refine wpAnyH_take (oi := ⟨_, _, _, _, _, _⟩) (i := 2) (v := .int .i64 M) rfl (by kernel_rfl) (by kernel_rfl) (by kernel_rfl) (fun _ _ _ h => h) (Or.inl ⟨by rfl, ?_⟩) (by assumption) ?_
    · (intro W hSw; (have l0 := hSw.1.at (k := 0) rfl); (have l1 := hSw.1.at (k := 1) rfl); (have l2 := hSw.1.at (k := 2) rfl); clear hSw; (have wm := HWM.out); go_simp; try (exact wrap_b8 _); try (with_reducible rfl))
    try simp only [Act.put, List.setIfInBounds_toArray, List.set_cons_zero, List.set_cons_succ]
    refine wpAnyH_ready (rs := [3]) (by kernel_rfl) (by simp) ?_
    refine AllReadyH.cons (o := ⟨_, _, _, _, _, _⟩) rfl (fun K hK => ?_) ?_
    · refine make_S rfl (.tmp 35) (.tmp 35) rfl M rfl rfl HM1.out w.heap.size hS.2.size ?_
      intro W1 hrow hbel
      have HROW := hid hrow
      have HGB : Hid (w.heap.size < W.heap.size) := hS.1.lt
      replace hS := And.intro (hS.1.below hbel hS.1.lt) (hS.2.trans (hbel.mono hS.2.size))
      clear hrow hbel
      generalize W.heap.size = gb at *
      refine hK.out _ _ hS (fun _ => ?_)
      clear hK K
      try simp only [Act.put, List.setIfInBounds_toArray, List.set_cons_zero, List.set_cons_succ]
      refine wpAnyH_take (oi := ⟨_, _, _, _, _, _⟩) (i := 4) (v := .agg #[.int .i64 mn, .int .i64 mx, .bool has, .slice (some ⟨gb, 0, none⟩) M M]) rfl (by kernel_rfl) (by kernel_rfl) (by kernel_rfl) (fun _ _ _ h => h) (Or.inl ⟨by rfl, ?_⟩) (by assumption) ?_
      · (intro W hSw; (have l0 := hSw.1.at (k := 0) rfl); (have l1 := hSw.1.at (k := 1) rfl); (have l2 := hSw.1.at (k := 2) rfl); clear hSw; (have wm := HWM.out); go_simp; try (exact wrap_b8 _); try (with_reducible rfl))
      try simp only [Act.put, List.setIfInBounds_toArray, List.set_cons_zero, List.set_cons_succ]
      refine wpAnyH_ready (rs := [5]) (by kernel_rfl) (by simp) ?_
      refine AllReadyH.cons (o := ⟨_, _, _, _, _, _⟩) rfl (fun K hK => ?_) ?_
      · go_simp
        have HMEM : Hid (MemA w.heap.size W1.heap.size mn mx has (some ⟨gb, 0, none⟩) M M (repC [.int .u8 0] M) (W1.alloc (.cells #[.int .i64 mn, .int .i64 mx, .bool has, .slice (some ⟨gb, 0, none⟩) M M] 29))) := ⟨CA.new _ _ _, HROW.out.below ((Below.refl _ _).alloc (Nat.le_refl _) _)⟩
        have HGM : Hid (w.heap.size ≤ W1.heap.size) := hS.2.size
        replace hS := And.intro (hS.1.alloc (.cells #[.int .i64 mn, .int .i64 mx, .bool has, .slice (some ⟨gb, 0, none⟩) M M] 29)) (hS.2.alloc hS.2.size (.cells #[.int .i64 mn, .int .i64 mx, .bool has, .slice (some ⟨gb, 0, none⟩) M M] 29))
        clear HROW
        generalize W1.alloc (.cells #[.int .i64 mn, .int .i64 mx, .bool has, .slice (some ⟨gb, 0, none⟩) M M] 29) = W2 at *
        generalize W1.heap.size = gm at *
        refine hK.out _ _ hS (fun _ => ?_)
        clear hK K
        try simp only [Act.put, List.setIfInBounds_toArray, List.set_cons_zero, List.set_cons_succ]
        refine wpAnyH_take (oi := ⟨_, _, _, _, _, _⟩) (i := 6) (v := .pointer (some ⟨gm, 0, none⟩)) rfl (by kernel_rfl) (by kernel_rfl) (by kernel_rfl) (fun _ _ _ h => h) (Or.inl ⟨by rfl, ?_⟩) (by assumption) ?_
        · (intro W hSw; (have l0 := hSw.1.at (k := 0) rfl); (have l1 := hSw.1.at (k := 1) rfl); (have l2 := hSw.1.at (k := 2) rfl); clear hSw; (have wm := HWM.out); go_simp; try (exact wrap_b8 _); try (with_reducible rfl))
        try simp only [Act.put, List.setIfInBounds_toArray, List.set_cons_zero, List.set_cons_succ]
        refine wpAnyH_done (by kernel_rfl) ?_ _
        have HL := hid hS.1
        have HB := hid hS.2
        clear hS
        have hM62 : (M : Int) < 9223372036854775808 := by have := HM1.out; omega
        go_upto_block 0 with (at_make; refine wpList_make_full _ rfl _ _ 27 rfl w.heap.size 5 i0 (.int .u8 0) 1 Try.underlying27 hi0 hz0 hz1 .i64 .i64 _ _ M rfl rfl rfl rfl (by rw [hz2]; have := HM1.out; omega) (by have := HM1.out; unfold maxLen; omega) HB.out.size ?_; intro wz hownz hgrowz)
        have hbz := (Below.refl W2.heap.size W2).grown hgrowz (Nat.le_refl _) (by simp)
        rw [madeB] at hownz
        have hrz : Row w.heap.size 5 1 (some ⟨W2.heap.size, 0, none⟩) M M (repC [.int .u8 0] M) wz := ⟨hownz, repC_one (by simp [Value.oneCell']) _⟩
        have hzl : Lib.byteCells (List.replicate M (0 : UInt8)) = repC [.int .u8 0] M := bytes_rep M 0
        rw [← hzl] at hrz HMEM
        have HSZ : Hid (Sl 1 (some ⟨W2.heap.size, 0, none⟩) (65536 * k) M (Lib.byteCells (List.replicate M (0 : UInt8))) wz) := HMK.out ▸ hrz.sl
        have HMZ : Hid (MemA w.heap.size gm mn mx has (some ⟨gb, 0, none⟩) (65536 * k) M (Lib.byteCells (List.replicate M (0 : UInt8))) wz) := HMK.out ▸ (HMEM.out.below hbz)
        have HNZ : Hid (∀ g, blk (some ⟨gb, 0, none⟩) = some g → blk (some ⟨W2.heap.size, 0, none⟩) ≠ some g) := by
          intro g h1 h2
          have h3 : gb = g := by simpa [blk] using h1
          have h4 : W2.heap.size = g := by simpa [blk] using h2
          have := HMEM.out.row.own.lt gb rfl
          omega
        have HNM : Hid (blk (some ⟨W2.heap.size, 0, none⟩) ≠ some gm) := by
          intro h2
          have h4 : W2.heap.size = gm := by simpa [blk] using h2
          have := HMEM.out.box.lt
          omega
        have HNLZ : Hid (∀ g, blk (some ⟨W2.heap.size, 0, none⟩) = some g → g < wz.heap.size) := fun g hg => hrz.lt' g hg
        have HLZ := hid (HL.out.below hbz HL.out.lt)
        have HBZ := hid (HB.out.trans (hbz.mono HB.out.size))
        have HGL : Hid (gm ≠ w.heap.size) := HMEM.out.box.ne HL.out (by decide)
        clear hbz hownz hgrowz HMEM HL HB hrz hzl
        generalize List.replicate M (0 : UInt8) = lz at HSZ HMZ
        generalize W2.heap.size = gz at *
        clear he hi0 hz0 hz1 hz2 HWM
        go_wp2
        clear hM62 HM1
        go_loopw [11, 12] (fun vw vi wr => ∃ (i K : Nat) (l : List UInt8) (pm pw : Option Addr) (cm cw : Nat), vi = .int .i64 i ∧ vw = .slice pw (65536 * K) cw ∧ Hid (i ≤ 12) ∧ Hid (K ≤ 4) ∧ Hid (MemA w.heap.size gm mn mx has pm (65536 * K) cm (Lib.byteCells l) wr) ∧ Hid (Sl 1 pw (65536 * K) cw (Lib.byteCells l) wr) ∧ Hid (∀ g, blk pm = some g → blk pw ≠ some g) ∧ Hid (blk pw ≠ some gm) ∧ Hid (∀ g, blk pw = some g → g < wr.heap.size) ∧ Hid (CA w.heap.size #[.int .i64 mn, .int .i64 mx, .bool has] 23 wr) ∧ Hid (Below w.heap.size w wr)) (fun _ vi _ => 12 - (intOf vi).toNat)
        case atStart => exact ⟨0, k, lz, some ⟨gb, 0, none⟩, some ⟨gz, 0, none⟩, M, M, rfl, by rw [← HMK.out], Nat.zero_le _, by have := HK2.out; show _ ≤ _; omega, HMZ, HSZ, HNZ, HNM, HNLZ, HLZ, HBZ⟩
        case round =>
          obtain ⟨i, K, l, pm, pw, cm, cw, rfl, rfl, HI, HK, HM, HSW, HNB, HNG, HNL, HLi, HBi⟩ := hrel
          by_cases hin : i < n
          · by_cases hi12 : (i : Int) < 12
            · obtain ⟨hcl, hok⟩ := HS.out.below HBi.out i hin
              obtain ⟨hp1, hp2⟩ := HS.out.at_ (by omega)
              subst hp1
              obtain ⟨⟨ek, ea, eb, en, ec, ep, em, ed, el, ⟨x0, x1, x2, x3⟩⟩, hE⟩ : ∃ e, e = E i := ⟨_, rfl⟩
              rw [← hE] at hcl hok
              have q0 := hcl 0 _ rfl
              have q1 := hcl 1 _ rfl
              have q2 := hcl 2 _ rfl
              have q3 := hcl 3 _ rfl
              have q4 := hcl 4 _ rfl
              have q5 := hcl 5 _ rfl
              have q6 := hcl 6 _ rfl
              have q7 := hcl 7 _ rfl
              have q8 := hcl 8 _ rfl
              have q9 := hcl 9 _ rfl
              rw [Nat.add_zero] at q0
              simp only at q0 q1 q2 q3 q4 q5 q6 q7 q8 q9
              have HOK := hid hok
              have HEA : Hid (ea < 18446744073709551616) := hok.a
              have HEB : Hid (eb < 18446744073709551616) := hok.b
              have HEN : Hid (en < 18446744073709551616) := hok.n
              have HEC : Hid (ec < 256) := hok.c
              have HES : Hid (Sl 1 ep em ed (Lib.byteCells el) w) := by have := (HS.out.ok i hin).s; rw [← hE] at this; exact this
              have HEK : Hid (-9223372036854775808 ≤ ek ∧ ek < 9223372036854775808) := hok.k
              obtain ⟨u, rfl⟩ : ∃ u : UInt8, ec = u.toNat := ⟨UInt8.ofNat ec, by have := HEC.out; simp; omega⟩
              clear hcl hok hE HOK hp2
              have hi62 : (i : Int) < 100 := by omega
              have HI12 : Hid (i < 12) := by show _ < _; omega
              go_upto_region 14 with fail
              have HXB := hid (CA.new wr #[.int .i64 ek, .int .u64 ea, .int .u64 eb, .int .u64 en, .int .u8 (u.toNat : Nat), .slice ep em ed, .int .i64 x0, .int .u64 x1, .int .u64 x2, .bool x3] 34)
              have hal := (Below.refl wr.heap.size wr).alloc (Nat.le_refl _) (.cells #[.int .i64 ek, .int .u64 ea, .int .u64 eb, .int .u64 en, .int .u8 (u.toNat : Nat), .slice ep em ed, .int .i64 x0, .int .u64 x1, .int .u64 x2, .bool x3] 34)
              have HBA := hid (HBi.out.trans (hal.mono HBi.out.size))
              have HMA := hid (HM.out.below hal)
              have HSA := hid (HSW.out.below hal)
              have HLA := hid (HLi.out.below hal HLi.out.lt)
              have HGX : Hid (gm ≠ wr.heap.size ∧ w.heap.size ≠ wr.heap.size) := by
                have h5 := HM.out.box.lt
                have h6 := HLi.out.lt
                constructor <;> omega
              have HNLA : Hid (∀ g, blk pw = some g → g < (wr.alloc (.cells #[.int .i64 ek, .int .u64 ea, .int .u64 eb, .int .u64 en, .int .u8 (u.toNat : Nat), .slice ep em ed, .int .i64 x0, .int .u64 x1, .int .u64 x2, .bool x3] 34)).heap.size) := fun g hg => Nat.lt_of_lt_of_le (HNL.out g hg) hal.size
              have HPX : Hid (blk pm ≠ some wr.heap.size) := HM.out.row.old
              clear hal HM HSW HLi HBi q0 q1 q2 q3 q4 q5 q6 q7 q8 q9
              generalize wr.alloc (.cells #[.int .i64 ek, .int .u64 ea, .int .u64 eb, .int .u64 en, .int .u8 (u.toNat : Nat), .slice ep em ed, .int .i64 x0, .int .u64 x1, .int .u64 x2, .bool x3] 34) = wa at *
              generalize wr.heap.size = gx at *
              have y0 := HXB.out.at (k := 0) (v := .int .i64 ek) rfl
              have y1 := HXB.out.at (k := 1) (v := .int .u64 ea) rfl
              have y2 := HXB.out.at (k := 2) (v := .int .u64 eb) rfl
              have y3 := HXB.out.at (k := 3) (v := .int .u64 en) rfl
              have y4 := HXB.out.at (k := 4) (v := .int .u8 (u.toNat : Nat)) rfl
              have y5 := HXB.out.at (k := 5) (v := .slice ep em ed) rfl
              by_cases hlong : (1000 : Int) < (em : Int)
              · have hem62 : (em : Int) < 9223372036854775808 := by have := HES.out.cap; have := HES.out.big; omega
                go_wp2
                go_ret
                exact ⟨rfl, HBA.out⟩
              · have HEM : Hid (em ≤ 1000) := by show _ ≤ _; omega
                have hem62 : (em : Int) < 9223372036854775808 := by have := HEM.out; omega
                have hK4 : (65536 * K : Nat) < 9223372036854775808 := by have := HK.out; omega
                go_upto_region 16 with fail
                clear hlong hi12 hn62 hi62 hin
                have HI2 : Hid (i < 12) := HI12
                have HLX : Hid (blk pm ≠ some w.heap.size) := HMA.out.row.typ HLA.out (by decide)
                have HGMW : Hid (∀ g, blk pm = some g → g < wa.heap.size) := fun g hg => (Row.lt' HMA.out.row g hg)
                go_upto_block 2 with fail
                generalize ek.tmod 6 = r
                go_cut [11, 14, 15] (fun vw v14 v15 wc => ∃ (K : Nat) (l : List UInt8) (pm pw : Option Addr) (cm cw : Nat) (EE : Int), vw = .slice pw (65536 * K) cw ∧ v14 = .int .i64 EE ∧ v15 = .int .i64 EE ∧ Hid (K ≤ 4) ∧ Hid (MemA w.heap.size gm mn mx has pm (65536 * K) cm (Lib.byteCells l) wc) ∧ Hid (Sl 1 pw (65536 * K) cw (Lib.byteCells l) wc) ∧ Hid (∀ g, blk pm = some g → blk pw ≠ some g) ∧ Hid (blk pw ≠ some gm) ∧ Hid (∀ g, blk pw = some g → g < wc.heap.size) ∧ Hid (CA w.heap.size #[.int .i64 mn, .int .i64 mx, .bool has] 23 wc) ∧ Hid (Below w.heap.size w wc))
                case rest =>
                  obtain ⟨K, l, pm, pw, cm, cw, EE, rfl, rfl, rfl, HKF, HMF, HSF, HNF, HNGF, HNLF, HLF, HBF⟩ := hcut
                  clear HBA HMA HSA HLA HNLA HXB HGX HPX y0 y1 y2 y3 y4 y5 HNB HNG HNL HK
                  have hK4 : (65536 * K : Nat) < 9223372036854775808 := by have := HKF.out; omega
                  have hi62 : (i : Int) < 100 := by have := HI2.out; omega
                  go_upto_region 46 with fail
                  have z3 : wc.drew.cell? ⟨gm, 3, none⟩ = some (.slice pm (65536 * K) cm) := HMF.out.box.at (k := 3) rfl
                  have cv1 : (convert 27 9 (.slice pm (65536 * K) cm)).run Try.prog wc.drew = .ok (.string ⟨l.toArray⟩) wc.drew := conv_bytes HMF.out.row.src.drew
                  have cv2 : (convert 27 9 (.slice pw (65536 * K) cw)).run Try.prog wc.drew = .ok (.string ⟨l.toArray⟩) wc.drew := conv_bytes HSF.out.src.drew
                  go_region
                  go_wp2
                  go_roundw
                  case rel => exact ⟨i + 1, K, l, pm, pw, cm, cw, by go_num, rfl, HI2, HKF, ⟨HMF.out.box, HMF.out.row.drew⟩, ⟨HSF.out.src.drew, HSF.out.cap, HSF.out.big, HSF.out.nil⟩, HNF, HNGF, HNLF, HLF, ⟨HBF.out.os, HBF.out.tape, HBF.out.output, HBF.out.size, HBF.out.block⟩⟩
                  case measure => have := HI2.out; simp [intOf]; omega
                case first => as_aux_lemma =>
                 rcases (show r = 0 ∨ r = 1 ∨ r = 2 ∨ r = 3 ∨ r = 4 ∨ (r ≠ 0 ∧ r ≠ 1 ∧ r ≠ 2 ∧ r ≠ 3 ∧ r ≠ 4) by omega) with rfl | rfl | rfl | rfl | rfl | ⟨hr0, hr1, hr2, hr3, hr4⟩
                 · as_aux_lemma =>
                    obtain ⟨ok, hok⟩ : ∃ ok, ok = okP (65536 * K) em ea 0 em := ⟨_, rfl⟩
                    obtain ⟨l2, hl2⟩ : ∃ l2, l2 = (if ok = true then splice l ea (cut el 0 em) else l) := ⟨_, rfl⟩
                    obtain ⟨EE, hEE⟩ : ∃ EE, EE = errP ok 44 := ⟨_, rfl⟩
                    have P1 : Hid (Calls Try.prog 9 #[.pointer (some ⟨gm, 0, none⟩), .int .u64 ea, .slice ep em ed] wa fun e w' => e = .returned (.int .i64 EE) ∧ MemA w.heap.size gm mn mx has pm (65536 * K) cm (Lib.byteCells l2) w' ∧ KP (blk pm) wa w') := by
                      have h := write_m w.heap.size gm mn mx has pm ep (65536 * K) cm em ed ea (Lib.byteCells l) (Lib.byteCells el) wa HMA.out (HES.out.src.below2 HBA.out) HES.out.cap HES.out.big HEA.out
                      rw [← hok] at h
                      rw [putP_bytes, ← hEE, ← hl2] at h
                      exact h
                    have P2 : ∀ W, Sl 1 pw (65536 * K) cw (Lib.byteCells l) W → Below w.heap.size w W → Hid (Calls Try.prog 10 #[.slice pw (65536 * K) cw, .int .u64 ea, .int .u64 0, .int .u64 em, .slice ep em ed] W fun e w' => ∃ p' c', e = .returned (.tuple #[.slice p' (65536 * K) c', .int .i64 EE]) ∧ Sl 1 p' (65536 * K) c' (Lib.byteCells l2) w' ∧ Below W.heap.size W w' ∧ NB W pw p' ∧ NL w' pw p') := by
                      intro W hs hb
                      have h := rput_b2 pw ep (65536 * K) cw em ed ea 0 em (Lib.byteCells l) (Lib.byteCells el) W hs (HES.out.below2 hb) (by have := HK.out; omega) HEA.out (by decide) (by have := HEM.out; omega)
                      rw [← hok] at h
                      rw [putP_bytes, ← hEE, ← hl2] at h
                      exact h
                    clear hok hl2 hEE
                    go_wp2_with (first
                      | (go_at_call 9; (with_reducible refine P1.out.mono ?_); rintro e wb ⟨rfl, hm, hk⟩; have HMB := hid hm; have HSZA := hid hk.size; have HSB := hid (HSA.out.keep hk (by rintro g o rfl e; exact HNB.out g e rfl)); have HLB := hid (HLA.out.keep hk HLX.out); have HBB := hid (HBA.out.trans (hk.below HBA.out.size HMA.out.row.blk_ge)); have hx := HXB.out.keep hk HPX.out; have y0 := hx.at (k := 0) (v := .int .i64 ek) rfl; have y1 := hx.at (k := 1) (v := .int .u64 ea) rfl; have y2 := hx.at (k := 2) (v := .int .u64 eb) rfl; have y3 := hx.at (k := 3) (v := .int .u64 en) rfl; have y4 := hx.at (k := 4) (v := .int .u8 (u.toNat : Nat)) rfl; have y5 := hx.at (k := 5) (v := .slice ep em ed) rfl; clear hm hk hx)
                      | (go_at_call 10; (with_reducible refine (P2 wb HSB.out HBB.out).out.mono ?_); rintro e wc ⟨pz, cz, rfl, hs, hb, hnb, hnl⟩; have HSF := hid hs; have HNLF : Hid (∀ g, blk pz = some g → g < wc.heap.size) := (fun g hg => (hnl g hg).elim (fun h => Nat.lt_of_lt_of_le (HNLA.out g h) (Nat.le_trans HSZA.out hb.size)) id); have HMF := hid (HMB.out.below hb); have HLF := hid (HLB.out.below hb HLB.out.lt); have HBF := hid (HBB.out.trans (hb.mono HBB.out.size)); have HNF : Hid (∀ g, blk pm = some g → blk pz ≠ some g) := (fun g hg => hnb g (Row.lt' HMB.out.row g hg) (HNB.out g hg)); have HNGF : Hid (blk pz ≠ some gm) := (hnb gm HMB.out.box.lt HNG.out); clear hs hb hnb hnl))
                    have HKF := HK
                    clear HMB HSB HLB HBB P1 P2 y0 y1 y2 y3 y4 y5
                    go_meet
                    exact ⟨K, l2, pm, pz, cm, cz, _, rfl, rfl, rfl, HKF, HMF, HSF, HNF, HNGF, HNLF, HLF, HBF⟩
                 · as_aux_lemma =>
                    obtain ⟨ok, hok⟩ : ∃ ok, ok = okF (65536 * K) ea en := ⟨_, rfl⟩
                    obtain ⟨l2, hl2⟩ : ∃ l2, l2 = (if ok = true then splice l ea (List.replicate en u) else l) := ⟨_, rfl⟩
                    obtain ⟨EE, hEE⟩ : ∃ EE, EE = errP ok 44 := ⟨_, rfl⟩
                    have P1 : Hid (Calls Try.prog 11 #[.pointer (some ⟨gm, 0, none⟩), .int .u64 ea, .int .u8 (u.toNat : Nat), .int .u64 en] wa fun e w' => e = .returned (.int .i64 EE) ∧ MemA w.heap.size gm mn mx has pm (65536 * K) cm (Lib.byteCells l2) w' ∧ KP (blk pm) wa w') := by
                      have h := fill_m w.heap.size gm mn mx has pm (65536 * K) cm ea en (u.toNat : Nat) (Lib.byteCells l) wa HMA.out HEA.out HEN.out
                      rw [← hok] at h
                      rw [fillP_bytes, ← hEE, ← hl2] at h
                      exact h
                    have P2 : ∀ W, Sl 1 pw (65536 * K) cw (Lib.byteCells l) W → Below w.heap.size w W → Hid (Calls Try.prog 12 #[.slice pw (65536 * K) cw, .int .u64 ea, .int .u8 (u.toNat : Nat), .int .u64 en] W fun e w' => ∃ p' c', e = .returned (.tuple #[.slice p' (65536 * K) c', .int .i64 EE]) ∧ Sl 1 p' (65536 * K) c' (Lib.byteCells l2) w' ∧ Below W.heap.size W w' ∧ NB W pw p' ∧ NL w' pw p') := by
                      intro W hs hb
                      have h := rfill_b2 pw (65536 * K) cw ea en (u.toNat : Nat) (Lib.byteCells l) W hs (by have := HK.out; omega) HEA.out HEN.out
                      rw [← hok] at h
                      rw [fillP_bytes, ← hEE, ← hl2] at h
                      exact h
                    clear hok hl2 hEE
                    go_wp2_with (first
                      | (go_at_call 11; (with_reducible refine P1.out.mono ?_); rintro e wb ⟨rfl, hm, hk⟩; have HMB := hid hm; have HSZA := hid hk.size; have HSB := hid (HSA.out.keep hk (by rintro g o rfl e; exact HNB.out g e rfl)); have HLB := hid (HLA.out.keep hk HLX.out); have HBB := hid (HBA.out.trans (hk.below HBA.out.size HMA.out.row.blk_ge)); have hx := HXB.out.keep hk HPX.out; have y0 := hx.at (k := 0) (v := .int .i64 ek) rfl; have y1 := hx.at (k := 1) (v := .int .u64 ea) rfl; have y2 := hx.at (k := 2) (v := .int .u64 eb) rfl; have y3 := hx.at (k := 3) (v := .int .u64 en) rfl; have y4 := hx.at (k := 4) (v := .int .u8 (u.toNat : Nat)) rfl; have y5 := hx.at (k := 5) (v := .slice ep em ed) rfl; clear hm hk hx)
                      | (go_at_call 12; (with_reducible refine (P2 wb HSB.out HBB.out).out.mono ?_); rintro e wc ⟨pz, cz, rfl, hs, hb, hnb, hnl⟩; have HSF := hid hs; have HNLF : Hid (∀ g, blk pz = some g → g < wc.heap.size) := (fun g hg => (hnl g hg).elim (fun h => Nat.lt_of_lt_of_le (HNLA.out g h) (Nat.le_trans HSZA.out hb.size)) id); have HMF := hid (HMB.out.below hb); have HLF := hid (HLB.out.below hb HLB.out.lt); have HBF := hid (HBB.out.trans (hb.mono HBB.out.size)); have HNF : Hid (∀ g, blk pm = some g → blk pz ≠ some g) := (fun g hg => hnb g (Row.lt' HMB.out.row g hg) (HNB.out g hg)); have HNGF : Hid (blk pz ≠ some gm) := (hnb gm HMB.out.box.lt HNG.out); clear hs hb hnb hnl))
                    have HKF := HK
                    clear HMB HSB HLB HBB P1 P2 y0 y1 y2 y3 y4 y5
                    go_meet
                    exact ⟨K, l2, pm, pz, cm, cz, _, rfl, rfl, rfl, HKF, HMF, HSF, HNF, HNGF, HNLF, HLF, HBF⟩
                 · as_aux_lemma =>
                    obtain ⟨ok, hok⟩ : ∃ ok, ok = okP (65536 * K) (65536 * K) ea eb en := ⟨_, rfl⟩
                    obtain ⟨l2, hl2⟩ : ∃ l2, l2 = (if ok = true then splice l ea (cut l eb en) else l) := ⟨_, rfl⟩
                    obtain ⟨EE, hEE⟩ : ∃ EE, EE = errP ok 44 := ⟨_, rfl⟩
                    have P1 : Hid (Calls Try.prog 13 #[.pointer (some ⟨gm, 0, none⟩), .int .u64 ea, .int .u64 eb, .int .u64 en] wa fun e w' => e = .returned (.int .i64 EE) ∧ MemA w.heap.size gm mn mx has pm (65536 * K) cm (Lib.byteCells l2) w' ∧ KP (blk pm) wa w') := by
                      have h := copy_m w.heap.size gm mn mx has pm (65536 * K) cm ea eb en (Lib.byteCells l) wa HMA.out HEA.out HEB.out HEN.out
                      rw [← hok] at h
                      rw [putP_bytes, ← hEE, ← hl2] at h
                      exact h
                    have P2 : ∀ W, Sl 1 pw (65536 * K) cw (Lib.byteCells l) W → Below w.heap.size w W → Hid (Calls Try.prog 10 #[.slice pw (65536 * K) cw, .int .u64 ea, .int .u64 eb, .int .u64 en, .slice pw (65536 * K) cw] W fun e w' => ∃ p' c', e = .returned (.tuple #[.slice p' (65536 * K) c', .int .i64 EE]) ∧ Sl 1 p' (65536 * K) c' (Lib.byteCells l2) w' ∧ Below W.heap.size W w' ∧ NB W pw p' ∧ NL w' pw p') := by
                      intro W hs hb
                      have h := rput_b2 pw pw (65536 * K) cw (65536 * K) cw ea eb en (Lib.byteCells l) (Lib.byteCells l) W hs hs (by have := HK.out; omega) HEA.out HEB.out HEN.out
                      rw [← hok] at h
                      rw [putP_bytes, ← hEE, ← hl2] at h
                      exact h
                    clear hok hl2 hEE
                    go_wp2_with (first
                      | (go_at_call 13; (with_reducible refine P1.out.mono ?_); rintro e wb ⟨rfl, hm, hk⟩; have HMB := hid hm; have HSZA := hid hk.size; have HSB := hid (HSA.out.keep hk (by rintro g o rfl e; exact HNB.out g e rfl)); have HLB := hid (HLA.out.keep hk HLX.out); have HBB := hid (HBA.out.trans (hk.below HBA.out.size HMA.out.row.blk_ge)); have hx := HXB.out.keep hk HPX.out; have y0 := hx.at (k := 0) (v := .int .i64 ek) rfl; have y1 := hx.at (k := 1) (v := .int .u64 ea) rfl; have y2 := hx.at (k := 2) (v := .int .u64 eb) rfl; have y3 := hx.at (k := 3) (v := .int .u64 en) rfl; have y4 := hx.at (k := 4) (v := .int .u8 (u.toNat : Nat)) rfl; have y5 := hx.at (k := 5) (v := .slice ep em ed) rfl; clear hm hk hx)
                      | (go_at_call 10; (with_reducible refine (P2 wb HSB.out HBB.out).out.mono ?_); rintro e wc ⟨pz, cz, rfl, hs, hb, hnb, hnl⟩; have HSF := hid hs; have HNLF : Hid (∀ g, blk pz = some g → g < wc.heap.size) := (fun g hg => (hnl g hg).elim (fun h => Nat.lt_of_lt_of_le (HNLA.out g h) (Nat.le_trans HSZA.out hb.size)) id); have HMF := hid (HMB.out.below hb); have HLF := hid (HLB.out.below hb HLB.out.lt); have HBF := hid (HBB.out.trans (hb.mono HBB.out.size)); have HNF : Hid (∀ g, blk pm = some g → blk pz ≠ some g) := (fun g hg => hnb g (Row.lt' HMB.out.row g hg) (HNB.out g hg)); have HNGF : Hid (blk pz ≠ some gm) := (hnb gm HMB.out.box.lt HNG.out); clear hs hb hnb hnl))
                    have HKF := HK
                    clear HMB HSB HLB HBB P1 P2 y0 y1 y2 y3 y4 y5
                    go_meet
                    exact ⟨K, l2, pm, pz, cm, cz, _, rfl, rfl, rfl, HKF, HMF, HSF, HNF, HNGF, HNLF, HLF, HBF⟩
                 · as_aux_lemma =>
                    obtain ⟨ok, hok⟩ : ∃ ok, ok = okP (65536 * K) em ea eb en := ⟨_, rfl⟩
                    obtain ⟨l2, hl2⟩ : ∃ l2, l2 = (if ok = true then splice l ea (cut el eb en) else l) := ⟨_, rfl⟩
                    obtain ⟨EE, hEE⟩ : ∃ EE, EE = errP ok 44 := ⟨_, rfl⟩
                    have P1 : Hid (Calls Try.prog 14 #[.pointer (some ⟨gm, 0, none⟩), .int .u64 ea, .int .u64 eb, .int .u64 en, .slice ep em ed] wa fun e w' => e = .returned (.int .i64 EE) ∧ MemA w.heap.size gm mn mx has pm (65536 * K) cm (Lib.byteCells l2) w' ∧ KP (blk pm) wa w') := by
                      have h := init_m w.heap.size gm mn mx has pm ep (65536 * K) cm em ed ea eb en (Lib.byteCells l) (Lib.byteCells el) wa HMA.out (HES.out.src.below2 HBA.out) HES.out.cap HES.out.big HEA.out HEB.out HEN.out
                      rw [← hok] at h
                      rw [putP_bytes, ← hEE, ← hl2] at h
                      exact h
                    have P2 : ∀ W, Sl 1 pw (65536 * K) cw (Lib.byteCells l) W → Below w.heap.size w W → Hid (Calls Try.prog 10 #[.slice pw (65536 * K) cw, .int .u64 ea, .int .u64 eb, .int .u64 en, .slice ep em ed] W fun e w' => ∃ p' c', e = .returned (.tuple #[.slice p' (65536 * K) c', .int .i64 EE]) ∧ Sl 1 p' (65536 * K) c' (Lib.byteCells l2) w' ∧ Below W.heap.size W w' ∧ NB W pw p' ∧ NL w' pw p') := by
                      intro W hs hb
                      have h := rput_b2 pw ep (65536 * K) cw em ed ea eb en (Lib.byteCells l) (Lib.byteCells el) W hs (HES.out.below2 hb) (by have := HK.out; omega) HEA.out HEB.out HEN.out
                      rw [← hok] at h
                      rw [putP_bytes, ← hEE, ← hl2] at h
                      exact h
                    clear hok hl2 hEE
                    go_wp2_with (first
                      | (go_at_call 14; (with_reducible refine P1.out.mono ?_); rintro e wb ⟨rfl, hm, hk⟩; have HMB := hid hm; have HSZA := hid hk.size; have HSB := hid (HSA.out.keep hk (by rintro g o rfl e; exact HNB.out g e rfl)); have HLB := hid (HLA.out.keep hk HLX.out); have HBB := hid (HBA.out.trans (hk.below HBA.out.size HMA.out.row.blk_ge)); have hx := HXB.out.keep hk HPX.out; have y0 := hx.at (k := 0) (v := .int .i64 ek) rfl; have y1 := hx.at (k := 1) (v := .int .u64 ea) rfl; have y2 := hx.at (k := 2) (v := .int .u64 eb) rfl; have y3 := hx.at (k := 3) (v := .int .u64 en) rfl; have y4 := hx.at (k := 4) (v := .int .u8 (u.toNat : Nat)) rfl; have y5 := hx.at (k := 5) (v := .slice ep em ed) rfl; clear hm hk hx)
                      | (go_at_call 10; (with_reducible refine (P2 wb HSB.out HBB.out).out.mono ?_); rintro e wc ⟨pz, cz, rfl, hs, hb, hnb, hnl⟩; have HSF := hid hs; have HNLF : Hid (∀ g, blk pz = some g → g < wc.heap.size) := (fun g hg => (hnl g hg).elim (fun h => Nat.lt_of_lt_of_le (HNLA.out g h) (Nat.le_trans HSZA.out hb.size)) id); have HMF := hid (HMB.out.below hb); have HLF := hid (HLB.out.below hb HLB.out.lt); have HBF := hid (HBB.out.trans (hb.mono HBB.out.size)); have HNF : Hid (∀ g, blk pm = some g → blk pz ≠ some g) := (fun g hg => hnb g (Row.lt' HMB.out.row g hg) (HNB.out g hg)); have HNGF : Hid (blk pz ≠ some gm) := (hnb gm HMB.out.box.lt HNG.out); clear hs hb hnb hnl))
                    have HKF := HK
                    clear HMB HSB HLB HBB P1 P2 y0 y1 y2 y3 y4 y5
                    go_meet
                    exact ⟨K, l2, pm, pz, cm, cz, _, rfl, rfl, rfl, HKF, HMF, HSF, HNF, HNGF, HNLF, HLF, HBF⟩
                 · as_aux_lemma =>
                    obtain ⟨rk, hrk1, hrk⟩ := and_255 (en : Int)
                    have HRK : Hid (rk ≤ 255) := hrk1
                    have hrk62 : (rk : Int) < 9223372036854775808 := by omega
                    have HCAP : Hid (65536 * K ≤ cw) := HSA.out.cap
                    clear hrk1
                    by_cases hinr : ea + rk ≤ 65536 * K
                    · have PRD := hid (read_m_yes w.heap.size gm mn mx has pm (65536 * K) cm ea rk (Lib.byteCells l) wa HMA.out (by have := HRK.out; omega) hinr)
                      have PIN : ∀ W, Hid (Calls Try.prog 16 #[.int .u64 ea, .int .u64 rk, .int .i64 (65536 * (K : Int))] W fun e w' => e = .returned (.bool true) ∧ W = w') := by
                        intro W
                        have h := in_says (65536 * K) ea rk (by have := HK.out; omega) HEA.out (by have := HRK.out; omega) W
                        rw [okF_yes hinr, show ((65536 * K : Nat) : Int) = 65536 * (K : Int) by omega] at h
                        exact h
                      go_upto_region 40 with (first
                        | (go_at_call 15; (with_reducible refine PRD.out.mono ?_); rintro e wb ⟨⟨gR, rfl, hgR, hrR⟩, hb⟩; have HRR := hid hrR; have HGR := hid hgR; have HMB := hid (HMA.out.below hb); have HSB := hid (HSA.out.below hb); have HLB := hid (HLA.out.below hb HLA.out.lt); have HBB := hid (HBA.out.trans (hb.mono HBA.out.size)); have HSZA := hid hb.size; have hx := HXB.out.below hb HXB.out.lt; have y1 := hx.at (k := 1) (v := .int .u64 ea) rfl; have y3 := hx.at (k := 3) (v := .int .u64 en) rfl; clear hrR hgR hb hx)
                        | (go_at_call 16; (with_reducible refine (PIN _).out.mono ?_); rintro e w5 ⟨rfl, rfl⟩))
                      have HLL : Hid (l.length = 65536 * K) := by have := HSB.out.src.len; rw [Lib.byteCells_length] at this; show _ = _; omega
                      have HRR2 : Hid (Row w.heap.size 5 1 (some ⟨gR, 0, none⟩) rk rk (Lib.byteCells (cut l ea rk)) wb.drew) := by
                        rw [bytes_cut]
                        exact (HRR.out.mono HBA.out.size).drew
                      have cvR : (convert 27 9 (.slice (some ⟨gR, 0, none⟩) rk rk)).run Try.prog wb.drew = .ok (.string ⟨(cut l ea rk).toArray⟩) wb.drew := conv_bytes HRR2.out.src
                      have HCV : ∀ q cc, (rk ≠ 0 → q = pw.map fun x => x.add ea) → Hid ((convert 27 9 (.slice q rk cc)).run Try.prog wb.drew = .ok (.string ⟨(cut l ea rk).toArray⟩) wb.drew) := by
                        intro q cc hq
                        have hsrc := HSB.out.src.part (at_ := ea) (n := rk) (by rw [Nat.mul_one]; exact hq) hinr
                        rw [Nat.mul_one, Nat.mul_one, ← bytes_cut] at hsrc
                        exact hid (conv_bytes hsrc.drew)
                      have yd1 : wb.drew.cell? ⟨gx, 1, none⟩ = some (.int .u64 ea) := y1
                      have hcap := HCAP.out
                      have hcwb : cw < 9223372036854775808 := HSB.out.big
                      clear PRD PIN HRR y0 y1 y2 y3 y4 y5
                      by_cases hct : cw = ea
                      · have cvW := (HCV pw 0 (fun h => by omega)).out
                        go_region
                        clear cvR cvW hct hcap hcwb yd1 HCV
                        have HMD : Hid (MemA w.heap.size gm mn mx has pm (65536 * K) cm (Lib.byteCells l) wb.drew) := ⟨HMB.out.box, HMB.out.row.drew⟩
                        have HSD : Hid (Sl 1 pw (65536 * K) cw (Lib.byteCells l) wb.drew) := HSB.out.drew
                        have HLD : Hid (CA w.heap.size #[.int .i64 mn, .int .i64 mx, .bool has] 23 wb.drew) := HLB.out
                        have HBD : Hid (Below w.heap.size w wb.drew) := ⟨HBB.out.os, HBB.out.tape, HBB.out.output, HBB.out.size, HBB.out.block⟩
                        have HSZD : Hid (wa.heap.size ≤ wb.drew.heap.size) := HSZA.out
                        have HGMA : Hid (gm < wa.heap.size ∧ w.heap.size < wa.heap.size ∧ w.heap.size ≤ gR) := ⟨HMA.out.box.lt, HLA.out.lt, Nat.le_trans HBA.out.size HGR.out⟩
                        have HCL : Hid ((cut l ea rk).length = rk) := cut_len (by rw [HLL.out]; exact hinr)
                        clear HMB HSB HLB HBB hinr
                        generalize wb.drew = wd at *
                        generalize cut l ea rk = lr0 at *
                        go_wp2
                        go_loopw [20] (fun vj wr => ∃ (j : Nat) (lr : List UInt8), vj = .int .i64 j ∧ Hid (j ≤ rk) ∧ Hid (lr.length = rk) ∧ Hid (Row w.heap.size 5 1 (some ⟨gR, 0, none⟩) rk rk (Lib.byteCells lr) wr) ∧ Hid (KP (some gR) wd wr)) (fun vj _ => rk - (intOf vj).toNat)
                        case atStart => exact ⟨0, lr0, rfl, Nat.zero_le _, HCL, HRR2, KP.refl _ _⟩
                        case round =>
                          obtain ⟨j, lr, rfl, HJ, HLR, HRJ, HKJ⟩ := hrel
                          by_cases hlt : j < rk
                          · have hjl : j < lr.length := by rw [HLR.out]; exact hlt
                            obtain ⟨g', cur, e, hB', hca, hcs⟩ := HRJ.out.pos (by omega)
                            cases e
                            have z0 : wr.cell? ⟨gR, j, none⟩ = some (.int .u8 (lr[j].toNat : Nat)) := by
                              obtain ⟨g9, o9, e9, _, ha⟩ := HRJ.out.src.at_ (by intro e; have := Lib.byteCells_length lr; rw [e] at this; simp at this; omega)
                              cases e9
                              have := ha j (.int .u8 (lr[j].toNat : Nat)) (by simp [Lib.byteCells, List.getElem?_eq_getElem hjl])
                              rwa [Nat.zero_add] at this
                            have z1 := hca.free j
                            obtain ⟨v, hv⟩ := xor_u8 lr[j]
                            have HCA := hid hca
                            have HJL := hid hjl
                            have HV := hid hv
                            generalize hA : (lr[j].toNat : Int) = A at *
                            clear hca hcs hB' hjl hA
                            go_wp2
                            go_roundw
                            case rel =>
                              have hset : Lib.byteCells (lr.set j v) = splice (Lib.byteCells lr) j [.int .u8 (v.toNat : Nat)] := by
                                rw [← splice_one _ _ _ (by rw [Lib.byteCells_length]; exact HJL.out)]
                                simp [Lib.byteCells, List.map_set]
                              refine ⟨j + 1, lr.set j v, by go_num, hlt, by rw [List.length_set]; exact HLR, ?_, HKJ.out.setCell (.inl rfl) _⟩
                              rw [hset]
                              refine HRJ.out.splice (by rw [Lib.byteCells_length]; have := HJL.out; simp; omega) (by simp [Value.oneCell']) (fun cur3 hc3 => ?_)
                              have h5 := (show CA gR cur3 5 wr from hc3).set (k := j) (.int .u8 (v.toNat : Nat))
                              have hcl : j < cur3.toList.length := by
                                obtain ⟨g9, cur9, e9, _, hc9, hs9⟩ := HRJ.out.pos (by omega)
                                cases e9
                                unfold CA at hc9
                                rw [hc3] at hc9
                                cases hc9
                                simp
                                omega
                              rw [← splice_one _ _ _ hcl, show (cur3.toList.set j (.int .u8 (v.toNat : Nat))).toArray = cur3.setIfInBounds j (.int .u8 (v.toNat : Nat)) by rw [← Array.toList_setIfInBounds, Array.toArray_toList]]
                              exact h5
                            case measure => simp [intOf]; omega
                          · go_wp2
                            have hk := HKJ.out
                            have HMF : Hid (MemA w.heap.size gm mn mx has pm (65536 * K) cm (Lib.byteCells l) wr) := ⟨HMD.out.box.keep hk (by intro e; cases e; have h5 := HGMA.out.1; have h6 := HGR.out; omega), HMD.out.row.keep hk (by rintro g o rfl e; have hg : gR = g := (by simpa using e); have h5 : g < wa.heap.size := HGMW.out g rfl; have h6 : wa.heap.size ≤ gR := HGR.out; omega)⟩
                            have HSF : Hid (Sl 1 pw (65536 * K) cw (Lib.byteCells l) wr) := HSD.out.keep hk (by rintro g o rfl e; have hg : gR = g := (by simpa using e); have h5 : g < wa.heap.size := HNLA.out g rfl; have h6 : wa.heap.size ≤ gR := HGR.out; omega)
                            have HLF : Hid (CA w.heap.size #[.int .i64 mn, .int .i64 mx, .bool has] 23 wr) := HLD.out.keep hk (by intro e; cases e; have h5 := HGMA.out.2.1; have h6 := HGR.out; omega)
                            have HBF : Hid (Below w.heap.size w wr) := HBD.out.trans (hk.below HBD.out.size (by rintro _ ⟨⟩; exact HGMA.out.2.2))
                            have HNLF : Hid (∀ g, blk pw = some g → g < wr.heap.size) := fun g hg => Nat.lt_of_lt_of_le (HNLA.out g hg) (Nat.le_trans HSZD.out hk.size)
                            have HNF := HNB
                            have HNGF := HNG
                            have HKF := HK
                            clear hk hlt
                            go_meet
                            exact ⟨K, l, pm, pw, cm, cw, _, rfl, rfl, rfl, HKF, HMF, HSF, HNF, HNGF, HNLF, HLF, HBF⟩
                      · have cvW := (HCV (pw.map fun x => x.add ea) (cw - ea) (fun _ => rfl)).out
                        go_region
                        clear cvR cvW hct hcap hcwb yd1 HCV
                        have HMD : Hid (MemA w.heap.size gm mn mx has pm (65536 * K) cm (Lib.byteCells l) wb.drew) := ⟨HMB.out.box, HMB.out.row.drew⟩
                        have HSD : Hid (Sl 1 pw (65536 * K) cw (Lib.byteCells l) wb.drew) := HSB.out.drew
                        have HLD : Hid (CA w.heap.size #[.int .i64 mn, .int .i64 mx, .bool has] 23 wb.drew) := HLB.out
                        have HBD : Hid (Below w.heap.size w wb.drew) := ⟨HBB.out.os, HBB.out.tape, HBB.out.output, HBB.out.size, HBB.out.block⟩
                        have HSZD : Hid (wa.heap.size ≤ wb.drew.heap.size) := HSZA.out
                        have HGMA : Hid (gm < wa.heap.size ∧ w.heap.size < wa.heap.size ∧ w.heap.size ≤ gR) := ⟨HMA.out.box.lt, HLA.out.lt, Nat.le_trans HBA.out.size HGR.out⟩
                        have HCL : Hid ((cut l ea rk).length = rk) := cut_len (by rw [HLL.out]; exact hinr)
                        clear HMB HSB HLB HBB hinr
                        generalize wb.drew = wd at *
                        generalize cut l ea rk = lr0 at *
                        go_wp2
                        go_loopw [20] (fun vj wr => ∃ (j : Nat) (lr : List UInt8), vj = .int .i64 j ∧ Hid (j ≤ rk) ∧ Hid (lr.length = rk) ∧ Hid (Row w.heap.size 5 1 (some ⟨gR, 0, none⟩) rk rk (Lib.byteCells lr) wr) ∧ Hid (KP (some gR) wd wr)) (fun vj _ => rk - (intOf vj).toNat)
                        case atStart => exact ⟨0, lr0, rfl, Nat.zero_le _, HCL, HRR2, KP.refl _ _⟩
                        case round =>
                          obtain ⟨j, lr, rfl, HJ, HLR, HRJ, HKJ⟩ := hrel
                          by_cases hlt : j < rk
                          · have hjl : j < lr.length := by rw [HLR.out]; exact hlt
                            obtain ⟨g', cur, e, hB', hca, hcs⟩ := HRJ.out.pos (by omega)
                            cases e
                            have z0 : wr.cell? ⟨gR, j, none⟩ = some (.int .u8 (lr[j].toNat : Nat)) := by
                              obtain ⟨g9, o9, e9, _, ha⟩ := HRJ.out.src.at_ (by intro e; have := Lib.byteCells_length lr; rw [e] at this; simp at this; omega)
                              cases e9
                              have := ha j (.int .u8 (lr[j].toNat : Nat)) (by simp [Lib.byteCells, List.getElem?_eq_getElem hjl])
                              rwa [Nat.zero_add] at this
                            have z1 := hca.free j
                            obtain ⟨v, hv⟩ := xor_u8 lr[j]
                            have HCA := hid hca
                            have HJL := hid hjl
                            have HV := hid hv
                            generalize hA : (lr[j].toNat : Int) = A at *
                            clear hca hcs hB' hjl hA
                            go_wp2
                            go_roundw
                            case rel =>
                              have hset : Lib.byteCells (lr.set j v) = splice (Lib.byteCells lr) j [.int .u8 (v.toNat : Nat)] := by
                                rw [← splice_one _ _ _ (by rw [Lib.byteCells_length]; exact HJL.out)]
                                simp [Lib.byteCells, List.map_set]
                              refine ⟨j + 1, lr.set j v, by go_num, hlt, by rw [List.length_set]; exact HLR, ?_, HKJ.out.setCell (.inl rfl) _⟩
                              rw [hset]
                              refine HRJ.out.splice (by rw [Lib.byteCells_length]; have := HJL.out; simp; omega) (by simp [Value.oneCell']) (fun cur3 hc3 => ?_)
                              have h5 := (show CA gR cur3 5 wr from hc3).set (k := j) (.int .u8 (v.toNat : Nat))
                              have hcl : j < cur3.toList.length := by
                                obtain ⟨g9, cur9, e9, _, hc9, hs9⟩ := HRJ.out.pos (by omega)
                                cases e9
                                unfold CA at hc9
                                rw [hc3] at hc9
                                cases hc9
                                simp
                                omega
                              rw [← splice_one _ _ _ hcl, show (cur3.toList.set j (.int .u8 (v.toNat : Nat))).toArray = cur3.setIfInBounds j (.int .u8 (v.toNat : Nat)) by rw [← Array.toList_setIfInBounds, Array.toArray_toList]]
                              exact h5
                            case measure => simp [intOf]; omega
                          · go_wp2
                            have hk := HKJ.out
                            have HMF : Hid (MemA w.heap.size gm mn mx has pm (65536 * K) cm (Lib.byteCells l) wr) := ⟨HMD.out.box.keep hk (by intro e; cases e; have h5 := HGMA.out.1; have h6 := HGR.out; omega), HMD.out.row.keep hk (by rintro g o rfl e; have hg : gR = g := (by simpa using e); have h5 : g < wa.heap.size := HGMW.out g rfl; have h6 : wa.heap.size ≤ gR := HGR.out; omega)⟩
                            have HSF : Hid (Sl 1 pw (65536 * K) cw (Lib.byteCells l) wr) := HSD.out.keep hk (by rintro g o rfl e; have hg : gR = g := (by simpa using e); have h5 : g < wa.heap.size := HNLA.out g rfl; have h6 : wa.heap.size ≤ gR := HGR.out; omega)
                            have HLF : Hid (CA w.heap.size #[.int .i64 mn, .int .i64 mx, .bool has] 23 wr) := HLD.out.keep hk (by intro e; cases e; have h5 := HGMA.out.2.1; have h6 := HGR.out; omega)
                            have HBF : Hid (Below w.heap.size w wr) := HBD.out.trans (hk.below HBD.out.size (by rintro _ ⟨⟩; exact HGMA.out.2.2))
                            have HNLF : Hid (∀ g, blk pw = some g → g < wr.heap.size) := fun g hg => Nat.lt_of_lt_of_le (HNLA.out g hg) (Nat.le_trans HSZD.out hk.size)
                            have HNF := HNB
                            have HNGF := HNG
                            have HKF := HK
                            clear hk hlt
                            go_meet
                            exact ⟨K, l, pm, pw, cm, cw, _, rfl, rfl, rfl, HKF, HMF, HSF, HNF, HNGF, HNLF, HLF, HBF⟩
                    · have PRD := hid (read_m_no w.heap.size gm mn mx has pm (65536 * K) cm ea rk (Lib.byteCells l) wa HMA.out (by have := HRK.out; omega) HEA.out hinr)
                      have PIN : ∀ W, Hid (Calls Try.prog 16 #[.int .u64 ea, .int .u64 rk, .int .i64 (65536 * (K : Int))] W fun e w' => e = .returned (.bool false) ∧ W = w') := by
                        intro W
                        have h := in_says (65536 * K) ea rk (by have := HK.out; omega) HEA.out (by have := HRK.out; omega) W
                        rw [okF_no hinr, show ((65536 * K : Nat) : Int) = 65536 * (K : Int) by omega] at h
                        exact h
                      clear hinr
                      go_upto_region 40 with (first
                        | (go_at_call 15; (with_reducible refine PRD.out.mono ?_); rintro e w5 ⟨rfl, rfl⟩)
                        | (go_at_call 16; (with_reducible refine (PIN _).out.mono ?_); rintro e w5 ⟨rfl, rfl⟩))
                      clear PRD PIN y0 y1 y2 y3 y4 y5
                      go_region
                      have HMF : Hid (MemA w.heap.size gm mn mx has pm (65536 * K) cm (Lib.byteCells l) wa.drew) := ⟨HMA.out.box, HMA.out.row.drew⟩
                      have HSF : Hid (Sl 1 pw (65536 * K) cw (Lib.byteCells l) wa.drew) := HSA.out.drew
                      have HLF : Hid (CA w.heap.size #[.int .i64 mn, .int .i64 mx, .bool has] 23 wa.drew) := HLA.out
                      have HBF : Hid (Below w.heap.size w wa.drew) := ⟨HBA.out.os, HBA.out.tape, HBA.out.output, HBA.out.size, HBA.out.block⟩
                      have HNLF : Hid (∀ g, blk pw = some g → g < wa.drew.heap.size) := HNLA
                      have HNF := HNB
                      have HNGF := HNG
                      have HKF := HK
                      generalize wa.drew = wc at *
                      go_wp2
                      go_loopw [20] (fun vj wq => vj = .int .i64 0 ∧ Hid (wq = wc)) (fun _ _ => 0)
                      case atStart => exact ⟨rfl, hid rfl⟩
                      case round =>
                        obtain ⟨rfl, HW⟩ := hrel
                        go_wp2
                        rw [HW.out]
                        go_meet
                        exact ⟨K, l, pm, pw, cm, cw, _, rfl, rfl, rfl, HKF, HMF, HSF, HNF, HNGF, HNLF, HLF, HBF⟩
                 · as_aux_lemma =>
                    have e0 : (r == 0) = false := by simp [hr0]
                    have e1 : (r == 1) = false := by simp [hr1]
                    have e2 : (r == 2) = false := by simp [hr2]
                    have e3 : (r == 3) = false := by simp [hr3]
                    have e4 : (r == 4) = false := by simp [hr4]
                    clear hr0 hr1 hr2 hr3 hr4
                    have l0 := HLA.out.at (k := 0) (v := .int .i64 mn) rfl
                    have l1 := HLA.out.at (k := 1) (v := .int .i64 mx) rfl
                    have l2 := HLA.out.at (k := 2) (v := .bool has) rfl
                    have hlc : (4 < most ∧ (has = false ∨ 4 < mx)) ∨ most ≤ 4 ∨ (4 < most ∧ has = true ∧ mx ≤ 4) := by
                      cases has
                      · rcases (show most ≤ 4 ∨ 4 < most by omega) with h | h
                        · exact .inr (.inl h)
                        · exact .inl ⟨h, .inl rfl⟩
                      · rcases (show most ≤ 4 ∨ 4 < most by omega) with h | h
                        · exact .inr (.inl h)
                        · rcases (show mx ≤ 4 ∨ 4 < mx by omega) with h' | h'
                          · exact .inr (.inr ⟨h, rfl, h'⟩)
                          · exact .inl ⟨h, .inr h'⟩
                    rcases hlc with ⟨hm4, hx⟩ | hm4' | ⟨hm4, rfl, hx4⟩
                    · rcases hx with rfl | hx
                      · go_wp2
                        go_ret
                        exact ⟨rfl, HBA.out⟩
                      · have hxn : ¬ mx ≤ 4 := by omega
                        clear hx
                        cases has
                        · go_wp2
                          go_ret
                          exact ⟨rfl, HBA.out⟩
                        · go_wp2
                          go_ret
                          exact ⟨rfl, HBA.out⟩
                    · have hm4 : ¬ 4 < most := by omega
                      have hlim : limI (lim65 most) mx has ≤ 4 := by
                        have h5 : lim65 most ≤ 4 := by unfold lim65; split <;> omega
                        unfold limI
                        split
                        · split <;> omega
                        · exact h5
                      obtain ⟨ok, hok⟩ : ∃ ok, roomB K en (lim65 most) mx has = ok := ⟨_, rfl⟩
                      obtain ⟨K2, hK2⟩ : ∃ K2, K2 = gN ok K (K + en) := ⟨_, rfl⟩
                      obtain ⟨lg, hlg⟩ : ∃ lg, lg = gX ok l (List.replicate (65536 * en) 0) := ⟨_, rfl⟩
                      obtain ⟨EG, hEG⟩ : ∃ EG, EG = gE ok K := ⟨_, rfl⟩
                      have HKF : Hid (K2 ≤ 4) := by
                        show K2 ≤ 4
                        rw [hK2]
                        cases ok with
                        | false => exact HK.out
                        | true =>
                          have h : (K : Int) + en ≤ limI (lim65 most) mx has := by simpa [roomB] using hok
                          show K + en ≤ 4
                          omega
                      have P1 : Hid (Calls Try.prog 17 #[.pointer (some ⟨gm, 0, none⟩), .int .u64 en, .int .i64 most] wa fun e w' => ∃ p' c', e = .returned (.int .i64 EG) ∧ MemA w.heap.size gm mn mx has p' (65536 * K2) c' (Lib.byteCells lg) w' ∧ KP (some gm) wa w' ∧ NB wa pm p') := by
                        have h := grow_b w.heap.size gm mn mx has pm K cm en most (Lib.byteCells l) wa HMA.out HBA.out.size (by have := HK.out; omega) HEN.out h1 h2 h3 h4 ok hok
                        rw [gX_bytes, ← hK2, ← hlg, ← hEG] at h
                        exact h
                      have P2 : ∀ W, Sl 1 pw (65536 * K) cw (Lib.byteCells l) W → Hid (Calls Try.prog 18 #[.slice pw (65536 * K) cw, .agg #[.int .i64 mn, .int .i64 mx, .bool has], .int .u64 en, .int .i64 most] W fun e w' => ∃ p' c', e = .returned (.tuple #[.slice p' (65536 * K2) c', .int .i64 EG]) ∧ Sl 1 p' (65536 * K2) c' (Lib.byteCells lg) w' ∧ Below W.heap.size W w' ∧ NB W pw p' ∧ NL w' pw p') := by
                        intro W hs
                        have h := rgrow_b2 pw K cw en most mn mx has (Lib.byteCells l) W hs (by have := HK.out; omega) HEN.out h1 h2 h3 h4 ok hok
                        rw [gX_bytes, ← hK2, ← hlg, ← hEG] at h
                        exact h
                      clear hok hK2 hlg hEG hlim
                      try clear hm4'
                      go_wp2_with (first
                        | (go_at_call 17; (with_reducible refine P1.out.mono ?_); rintro e wb ⟨pk, ck, rfl, hm, hk, hnb⟩; have HMB := hid hm; have HSZA := hid hk.size; have HNB1 := hid hnb; have HSB := hid (HSA.out.keep hk (by rintro g o rfl e; cases e; exact HNG.out rfl)); have HLB := hid (HLA.out.keep hk (by intro e; cases e; exact HGL.out rfl)); have HBB := hid (HBA.out.trans (hk.below HBA.out.size (by rintro _ ⟨⟩; exact HGM.out))); have hx := HXB.out.keep hk (by intro e; cases e; exact HGX.out.1 rfl); have y3 := hx.at (k := 3) (v := .int .u64 en) rfl; have l0 := HLB.out.at (k := 0) (v := .int .i64 mn) rfl; have l1 := HLB.out.at (k := 1) (v := .int .i64 mx) rfl; have l2 := HLB.out.at (k := 2) (v := .bool has) rfl; clear hm hk hx hnb)
                        | (go_at_call 18; (with_reducible refine (P2 wb HSB.out).out.mono ?_); rintro e wc ⟨pz, cz, rfl, hs, hb, hnb, hnl⟩; have HSF := hid hs; have HNLF : Hid (∀ g, blk pz = some g → g < wc.heap.size) := (fun g hg => (hnl g hg).elim (fun h => Nat.lt_of_lt_of_le (HNLA.out g h) (Nat.le_trans HSZA.out hb.size)) id); have HMF := hid (HMB.out.below hb); have HLF := hid (HLB.out.below hb HLB.out.lt); have HBF := hid (HBB.out.trans (hb.mono HBB.out.size)); have HNF : Hid (∀ g, blk pk = some g → blk pz ≠ some g) := (fun g hg => hnb g (Row.lt' HMB.out.row g hg) (fun hw => HNB1.out g (HNLA.out g hw) (fun hp => HNB.out g hp hw) hg)); have HNGF : Hid (blk pz ≠ some gm) := (hnb gm HMB.out.box.lt HNG.out); clear hs hb hnb hnl))
                      clear HMB HSB HLB HBB P1 P2 y0 y1 y2 y3 y4 y5 l0 l1 l2
                      go_meet
                      exact ⟨K2, lg, pk, pz, ck, cz, _, rfl, rfl, rfl, HKF, HMF, HSF, HNF, HNGF, HNLF, HLF, HBF⟩

                    · have hlim : limI (lim65 most) mx true ≤ 4 := by
                        rw [limI, if_pos rfl]
                        split <;> omega
                      obtain ⟨ok, hok⟩ : ∃ ok, roomB K en (lim65 most) mx true = ok := ⟨_, rfl⟩
                      obtain ⟨K2, hK2⟩ : ∃ K2, K2 = gN ok K (K + en) := ⟨_, rfl⟩
                      obtain ⟨lg, hlg⟩ : ∃ lg, lg = gX ok l (List.replicate (65536 * en) 0) := ⟨_, rfl⟩
                      obtain ⟨EG, hEG⟩ : ∃ EG, EG = gE ok K := ⟨_, rfl⟩
                      have HKF : Hid (K2 ≤ 4) := by
                        show K2 ≤ 4
                        rw [hK2]
                        cases ok with
                        | false => exact HK.out
                        | true =>
                          have h : (K : Int) + en ≤ limI (lim65 most) mx true := by simpa [roomB] using hok
                          show K + en ≤ 4
                          omega
                      have P1 : Hid (Calls Try.prog 17 #[.pointer (some ⟨gm, 0, none⟩), .int .u64 en, .int .i64 most] wa fun e w' => ∃ p' c', e = .returned (.int .i64 EG) ∧ MemA w.heap.size gm mn mx true p' (65536 * K2) c' (Lib.byteCells lg) w' ∧ KP (some gm) wa w' ∧ NB wa pm p') := by
                        have h := grow_b w.heap.size gm mn mx true pm K cm en most (Lib.byteCells l) wa HMA.out HBA.out.size (by have := HK.out; omega) HEN.out h1 h2 h3 h4 ok hok
                        rw [gX_bytes, ← hK2, ← hlg, ← hEG] at h
                        exact h
                      have P2 : ∀ W, Sl 1 pw (65536 * K) cw (Lib.byteCells l) W → Hid (Calls Try.prog 18 #[.slice pw (65536 * K) cw, .agg #[.int .i64 mn, .int .i64 mx, .bool true], .int .u64 en, .int .i64 most] W fun e w' => ∃ p' c', e = .returned (.tuple #[.slice p' (65536 * K2) c', .int .i64 EG]) ∧ Sl 1 p' (65536 * K2) c' (Lib.byteCells lg) w' ∧ Below W.heap.size W w' ∧ NB W pw p' ∧ NL w' pw p') := by
                        intro W hs
                        have h := rgrow_b2 pw K cw en most mn mx true (Lib.byteCells l) W hs (by have := HK.out; omega) HEN.out h1 h2 h3 h4 ok hok
                        rw [gX_bytes, ← hK2, ← hlg, ← hEG] at h
                        exact h
                      clear hok hK2 hlg hEG hlim
                      try clear hm4'
                      go_wp2_with (first
                        | (go_at_call 17; (with_reducible refine P1.out.mono ?_); rintro e wb ⟨pk, ck, rfl, hm, hk, hnb⟩; have HMB := hid hm; have HSZA := hid hk.size; have HNB1 := hid hnb; have HSB := hid (HSA.out.keep hk (by rintro g o rfl e; cases e; exact HNG.out rfl)); have HLB := hid (HLA.out.keep hk (by intro e; cases e; exact HGL.out rfl)); have HBB := hid (HBA.out.trans (hk.below HBA.out.size (by rintro _ ⟨⟩; exact HGM.out))); have hx := HXB.out.keep hk (by intro e; cases e; exact HGX.out.1 rfl); have y3 := hx.at (k := 3) (v := .int .u64 en) rfl; have l0 := HLB.out.at (k := 0) (v := .int .i64 mn) rfl; have l1 := HLB.out.at (k := 1) (v := .int .i64 mx) rfl; have l2 := HLB.out.at (k := 2) (v := .bool true) rfl; clear hm hk hx hnb)
                        | (go_at_call 18; (with_reducible refine (P2 wb HSB.out).out.mono ?_); rintro e wc ⟨pz, cz, rfl, hs, hb, hnb, hnl⟩; have HSF := hid hs; have HNLF : Hid (∀ g, blk pz = some g → g < wc.heap.size) := (fun g hg => (hnl g hg).elim (fun h => Nat.lt_of_lt_of_le (HNLA.out g h) (Nat.le_trans HSZA.out hb.size)) id); have HMF := hid (HMB.out.below hb); have HLF := hid (HLB.out.below hb HLB.out.lt); have HBF := hid (HBB.out.trans (hb.mono HBB.out.size)); have HNF : Hid (∀ g, blk pk = some g → blk pz ≠ some g) := (fun g hg => hnb g (Row.lt' HMB.out.row g hg) (fun hw => HNB1.out g (HNLA.out g hw) (fun hp => HNB.out g hp hw) hg)); have HNGF : Hid (blk pz ≠ some gm) := (hnb gm HMB.out.box.lt HNG.out); clear hs hb hnb hnl))
                      clear HMB HSB HLB HBB P1 P2 y0 y1 y2 y3 y4 y5 l0 l1 l2
                      go_meet
                      exact ⟨K2, lg, pk, pz, ck, cz, _, rfl, rfl, rfl, HKF, HMF, HSF, HNF, HNGF, HNLF, HLF, HBF⟩

            · have hi62 : (i : Int) < 100 := by have := HI.out; omega
              go_wp2
              go_ret
              exact ⟨rfl, HBi.out⟩
          · have hi62 : (i : Int) < 100 := by have := HI.out; omega
            go_wp2
            go_ret
            exact ⟨rfl, HBi.out⟩
      exact AllReadyH.nil
    exact AllReadyH.nil
theorem walk_Mem (pages : Int) (_ : -9223372036854775808 ≤ pages) (_ : pages < 9223372036854775808) (mn mx : Int) (has : Bool) (h3 : -9223372036854775808 ≤ mx) (h4 : mx < 9223372036854775808) (p : Option Addr) (n c b o : Nat) (E : Nat → EAct) (hn : n ≤ maxLen) {W0 : World} (hS : Scr p n b o E W0) (most : Int) (h1 : -9223372036854775808 ≤ most) (h2 : most < 9223372036854775808) (w : World) (hw : W0 = w) :
    Calls Try.prog 3 #[.int .i64 pages, .agg #[.int .i64 mn, .int .i64 mx, .bool has], .slice p n c, .int .i64 most] w fun e w' => e = .returned (.bool true) ∧ Below w.heap.size w w' := by
  subst hw
  exact law_Mem pages mn mx has h3 h4 p n c b o E most h1 h2 W0 hn hS
end Go.Proofs.Ytlifnddofgeaaaa
