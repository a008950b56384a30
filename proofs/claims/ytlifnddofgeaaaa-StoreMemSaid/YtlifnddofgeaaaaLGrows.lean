/-
  The law of what grows (StoreGrows), walked to its end: it answers true. No condition.
-/
import Derived.Test.YtlifnddofgeaaaaComb
set_option linter.unusedSimpArgs false
set_option linter.unusedVariables false
set_option maxRecDepth 100000
namespace Go.Proofs.Ytlifnddofgeaaaa
open Go.RowKit

theorem and_one (b : Int) : ∃ k : Nat, k ≤ 1 ∧ Go.bits .and .i64 b 1 = (k : Int) := by
  refine ⟨(BitVec.ofInt 64 b &&& BitVec.ofInt 64 1).toNat, ?_, ?_⟩
  · rw [BitVec.toNat_and, show (BitVec.ofInt 64 1).toNat = 1 by decide]
    exact Nat.and_le_right
  · show IntKind.i64.wrap (((BitVec.ofInt 64 b &&& BitVec.ofInt 64 1).toNat : Nat) : Int) = _
    have h : (BitVec.ofInt 64 b &&& BitVec.ofInt 64 1).toNat ≤ 1 := by
      rw [BitVec.toNat_and, show (BitVec.ofInt 64 1).toNat = 1 by decide]
      exact Nat.and_le_right
    rw [IntKind.wrap_i64]
    omega
theorem make_S {ops : Array Oper} {o : Oper} {a : Act} {w : World} {K : Act → World → Prop} {Q : Exit → Act → World → Prop} {E : Prop} (hgd : o.guard = none) (l c : Operand)
    (hop : o.op = Op.makeSlice 27 l c) (n : Nat) (hl : a.eval l = .int .i64 n) (hc : a.eval c = .int .i64 n) (hn : n ≤ 1000000000) (B : Nat) (hB : B ≤ w.heap.size)
    (h : ∀ w', Row B 5 1 (some ⟨w.heap.size, 0, none⟩) n n (repC [.int .u8 0] n) w' → Below w.heap.size w w' → K (a.put o.dst (.slice (some ⟨w.heap.size, 0, none⟩) n n)) w') :
    if Region.wanted o (yielded ops a.tmps) = true then Oper.wp Try.prog o a w K Q else E := by
  have hw : Region.wanted o (yielded ops a.tmps) = true := by simp [Region.wanted, hgd]
  rw [if_pos hw]
  obtain ⟨i0, hi0, hz0, hz1, hz2⟩ := info_parts info5
  obtain ⟨w', hrun, r1, r2⟩ := run_make_full (P := Try.prog) w B 27 5 i0 (.int .u8 0) 1 Try.underlying27 hi0 hz0 hz1 .i64 .i64 n (by rw [hz2]; omega) (by unfold maxLen; omega) hB
  unfold Oper.wp
  simp [execOp, hop, hl, hc, hrun, Result.andThen]
  rw [madeB] at r1
  exact h w' ⟨r1, repC_one (by simp [Value.oneCell']) _⟩ ((Below.refl w.heap.size w).grown r2 (Nat.le_refl _) (by simp))
theorem Sl.old {s n c : Nat} {p : Option Addr} {xs : List Value} {w : World} (h : Sl s p n c xs w) (hs : 0 < s) : blk p ≠ some w.heap.size ∨ n = 0 := by
  by_cases hn : n = 0
  · exact .inr hn
  · refine .inl ?_
    obtain ⟨g, o, rfl, hg, _⟩ := h.src.at_ (by intro e; have := h.src.len; rw [e] at this; have := Nat.mul_pos (Nat.pos_of_ne_zero hn) hs; simp at *; omega)
    intro e
    have : g = w.heap.size := by simpa [blk] using e
    omega
theorem Row.old {B T s n c : Nat} {p : Option Addr} {xs : List Value} {w : World} (h : Row B T s p n c xs w) : blk p ≠ some w.heap.size := by
  intro e
  cases p with
  | none => cases e
  | some a =>
    have h2 := h.own.lt a.block rfl
    have h3 : a.block = w.heap.size := by simpa [blk] using e
    omega
theorem Sl.keepO {s n c g : Nat} {p : Option Addr} {xs : List Value} {w w' : World} (h : Sl s p n c xs w) (hk : KP (some g) w w') (hc : blk p ≠ some g ∨ n = 0) : Sl s p n c xs w' := by
  rcases hc with hc | rfl
  · exact h.keep hk (by rintro g' o rfl e; cases e; exact hc rfl)
  · have hx : xs = [] := List.eq_nil_of_length_eq_zero (by have := h.src.len; simpa using this)
    exact ⟨⟨h.src.len, h.src.one, fun hne => absurd hx hne⟩, h.cap, h.big, h.nil⟩
theorem CA.ne {g g' : Nat} {cs cs' : Array Value} {T T' : TypeId} {W : World} (h : CA g cs T W) (h' : CA g' cs' T' W) (hT : T ≠ T') : g ≠ g' := by
  rintro rfl
  unfold CA at h h'
  rw [h] at h'
  cases h'
  exact hT rfl
set_option maxHeartbeats 20000000 in
theorem walk_Grows (mn mx : Int) (has : Bool) (h3 : -9223372036854775808 ≤ mx) (h4 : mx < 9223372036854775808) (n : Nat) (hn : n < 18446744073709551616) (most : Int) (h1 : -9223372036854775808 ≤ most) (h2 : most < 9223372036854775808) (x0 : Int) (x1 x2 : Nat) (x3 : Bool) (before : Int) (_ : -9223372036854775808 ≤ before) (_ : before < 9223372036854775808) (w : World) :
    Calls Try.prog 7 #[.agg #[.int .i64 mn, .int .i64 mx, .bool has], .int .u64 n, .int .i64 most, .agg #[.int .i64 x0, .int .u64 x1, .int .u64 x2, .bool x3], .int .i64 before] w fun e w' => e = .returned (.bool true) ∧ Below w.heap.size w w' := by
  obtain ⟨k, hk1, hk⟩ := and_one before
  have HA := fun W => hid (awake_says W)
  have HL0 : Hid (CA w.heap.size #[.int .i64 mn, .int .i64 mx, .bool has] 23 ((w.alloc (.cells #[.int .i64 mn, .int .i64 mx, .bool has] 23)).alloc (.cells #[.int .i64 x0, .int .u64 x1, .int .u64 x2, .bool x3] 32))) := (CA.new _ _ _).alloc _
  have HV0 : Hid (CA (w.heap.size + 1) #[.int .i64 x0, .int .u64 x1, .int .u64 x2, .bool x3] 32 ((w.alloc (.cells #[.int .i64 mn, .int .i64 mx, .bool has] 23)).alloc (.cells #[.int .i64 x0, .int .u64 x1, .int .u64 x2, .bool x3] 32))) := by have hh := CA.new (w.alloc (.cells #[.int .i64 mn, .int .i64 mx, .bool has] 23)) #[.int .i64 x0, .int .u64 x1, .int .u64 x2, .bool x3] 32; rw [size_al] at hh; exact hh
  have HB0 := hid (((Below.refl w.heap.size w).alloc (Nat.le_refl _) (.cells #[.int .i64 mn, .int .i64 mx, .bool has] 23)).alloc (by simp) (.cells #[.int .i64 x0, .int .u64 x1, .int .u64 x2, .bool x3] 32))
  have hcase : (has = true ∧ mx ≤ 4) ∨ has = false ∨ (has = true ∧ 4 < mx) := by
    cases has with
    | false => exact .inr (.inl rfl)
    | true =>
      rcases (show mx ≤ 4 ∨ 4 < mx by omega) with h | h
      · exact .inl ⟨rfl, h⟩
      · exact .inr (.inr ⟨rfl, h⟩)
  go_enter Try.func7, Try.ntmps7
  go_upto_region 5 with (go_at_call 8; (with_reducible refine (HA _).out.mono ?_); rintro e w1 ⟨rfl, hb1⟩; have HB1 := hid (HB0.out.trans (hb1.mono HB0.out.size)); have HL1 := hid (HL0.out.below hb1 HL0.out.lt); have HV1 := hid (HV0.out.below hb1 HV0.out.lt); clear hb1)
  have y0 := HL1.out.at (k := 0) (v := .int .i64 mn) rfl
  have y1 := HL1.out.at (k := 1) (v := .int .i64 mx) rfl
  have y2 := HL1.out.at (k := 2) (v := .bool has) rfl
  have f0 := HL1.out.free 0
  have f1 := HL1.out.free 1
  have f2 := HL1.out.free 2
  clear HL0 HV0 HB0 HA
  obtain ⟨i0, hi0, hz0, hz1, hz2⟩ := info_parts info5
  obtain ⟨M, hM⟩ : ∃ M, M = 65536 * k := ⟨_, rfl⟩
  have he : (k : Int) * 65536 = (M : Int) := by omega
  have HMK := hid hM
  have HM1 : Hid (M ≤ 1000000000) := by show _ ≤ _; omega
  have HWM : Hid (IntKind.i64.wrap (M : Int) = (M : Int)) := by show _ = _; rw [IntKind.wrap_i64]; omega
  clear hM
  rcases hcase with ⟨rfl, hle⟩ | rfl | ⟨rfl, hlt⟩
  · go_upto_region 7 with fail
    have HMZB : Hid (-9223372036854775808 ≤ mx ∧ mx < 9223372036854775808) := ⟨h3, h4⟩
    have HL2 := HL1
    have HV2 := HV1
    have HB2 := HB1
    clear HL1 HV1 HB1 y0 y1 y2 f0 f1 f2 hle h3 h4
    obtain ⟨W0, hW0⟩ : ∃ W0, W0 = w1 := ⟨_, rfl⟩
    rw [← hW0] at HL2 HV2 HB2 ⊢
    clear hW0
    have hS : CA w.heap.size #[.int .i64 mn, .int .i64 mx, .bool true] 23 W0.drew ∧ CA (w.heap.size + 1) #[.int .i64 x0, .int .u64 x1, .int .u64 x2, .bool x3] 32 W0.drew ∧ Below w.heap.size w W0.drew := ⟨HL2.out, HV2.out, ⟨HB2.out.os, HB2.out.tape, HB2.out.output, HB2.out.size, HB2.out.block⟩⟩
    refine wp_region_held_drew (S := fun W => CA w.heap.size #[.int .i64 mn, .int .i64 mx, .bool true] 23 W ∧ CA (w.heap.size + 1) #[.int .i64 x0, .int .u64 x1, .int .u64 x2, .bool x3] 32 W ∧ Below w.heap.size w W) (by kernel_rfl) hS (fun _ => ?_)
    clear HL2 HV2 HB2
    generalize W0.drew = W at *
    refine wpAnyH_take (oi := ⟨_, _, _, _, _, _⟩) (i := 0) (v := .agg #[.int .i64 mn, .int .i64 mx, .bool true]) rfl (by kernel_rfl) (by kernel_rfl) (by kernel_rfl) (fun _ _ _ h => h) (Or.inl ⟨by rfl, ?_⟩) (by assumption) ?_
    · (intro W hSw; (have l0 := hSw.1.at (k := 0) rfl); (have l1 := hSw.1.at (k := 1) rfl); (have l2 := hSw.1.at (k := 2) rfl); clear hSw; (have wm := HWM.out); go_simp; try (exact wrap_b8 _); try (with_reducible rfl))
    try simp only [Act.put, List.setIfInBounds_toArray, List.set_cons_zero, List.set_cons_succ]
    refine wpAnyH_take (oi := ⟨_, _, _, _, _, _⟩) (i := 1) (v := .int .i64 k) rfl (by kernel_rfl) (by kernel_rfl) (by kernel_rfl) (fun _ _ _ h => h) (Or.inl ⟨by rfl, ?_⟩) (by assumption) ?_
    · (intro W hSw; (have l0 := hSw.1.at (k := 0) rfl); (have l1 := hSw.1.at (k := 1) rfl); (have l2 := hSw.1.at (k := 2) rfl); clear hSw; (have wm := HWM.out); go_simp; try (exact wrap_b8 _); try (with_reducible rfl))
    try simp only [Act.put, List.setIfInBounds_toArray, List.set_cons_zero, List.set_cons_succ]
    refine wpAnyH_take (oi := ⟨_, _, _, _, _, _⟩) (i := 2) (v := .int .i64 M) rfl (by kernel_rfl) (by kernel_rfl) (by kernel_rfl) (fun _ _ _ h => h) (Or.inl ⟨by rfl, ?_⟩) (by assumption) ?_
    · (intro W hSw; (have l0 := hSw.1.at (k := 0) rfl); (have l1 := hSw.1.at (k := 1) rfl); (have l2 := hSw.1.at (k := 2) rfl); clear hSw; (have wm := HWM.out); go_simp; try (exact wrap_b8 _); try (with_reducible rfl))
    try simp only [Act.put, List.setIfInBounds_toArray, List.set_cons_zero, List.set_cons_succ]
    refine wpAnyH_ready (rs := [3]) (by kernel_rfl) (by simp) ?_
    refine AllReadyH.cons (o := ⟨_, _, _, _, _, _⟩) rfl (fun K hK => ?_) ?_
    · refine make_S rfl (.tmp 41) (.tmp 41) rfl M rfl rfl HM1.out w.heap.size hS.2.2.size ?_
      intro W1 hrow hbel
      have HROW := hid hrow
      have HGB : Hid (w.heap.size + 1 < W.heap.size) := hS.2.1.lt
      have HGW : Hid (w.heap.size ≤ W.heap.size) := hS.2.2.size
      replace hS := And.intro (hS.1.below hbel hS.1.lt) (And.intro (hS.2.1.below hbel hS.2.1.lt) (hS.2.2.trans (hbel.mono hS.2.2.size)))
      clear hrow hbel
      generalize W.heap.size = gb at *
      refine hK.out _ _ hS (fun _ => ?_)
      clear hK K
      try simp only [Act.put, List.setIfInBounds_toArray, List.set_cons_zero, List.set_cons_succ]
      refine wpAnyH_take (oi := ⟨_, _, _, _, _, _⟩) (i := 4) (v := .agg #[.int .i64 mn, .int .i64 mx, .bool true, .slice (some ⟨gb, 0, none⟩) M M]) rfl (by kernel_rfl) (by kernel_rfl) (by kernel_rfl) (fun _ _ _ h => h) (Or.inl ⟨by rfl, ?_⟩) (by assumption) ?_
      · (intro W hSw; (have l0 := hSw.1.at (k := 0) rfl); (have l1 := hSw.1.at (k := 1) rfl); (have l2 := hSw.1.at (k := 2) rfl); clear hSw; (have wm := HWM.out); go_simp; try (exact wrap_b8 _); try (with_reducible rfl))
      try simp only [Act.put, List.setIfInBounds_toArray, List.set_cons_zero, List.set_cons_succ]
      refine wpAnyH_ready (rs := [5]) (by kernel_rfl) (by simp) ?_
      refine AllReadyH.cons (o := ⟨_, _, _, _, _, _⟩) rfl (fun K hK => ?_) ?_
      · go_simp
        have HMEM : Hid (MemA w.heap.size W1.heap.size mn mx true (some ⟨gb, 0, none⟩) M M (repC [.int .u8 0] M) (W1.alloc (.cells #[.int .i64 mn, .int .i64 mx, .bool true, .slice (some ⟨gb, 0, none⟩) M M] 29))) := ⟨CA.new _ _ _, HROW.out.below ((Below.refl _ _).alloc (Nat.le_refl _) _)⟩
        have HGM : Hid (w.heap.size ≤ W1.heap.size) := hS.2.2.size
        replace hS := And.intro (hS.1.alloc (.cells #[.int .i64 mn, .int .i64 mx, .bool true, .slice (some ⟨gb, 0, none⟩) M M] 29)) (And.intro (hS.2.1.alloc (.cells #[.int .i64 mn, .int .i64 mx, .bool true, .slice (some ⟨gb, 0, none⟩) M M] 29)) (hS.2.2.alloc hS.2.2.size (.cells #[.int .i64 mn, .int .i64 mx, .bool true, .slice (some ⟨gb, 0, none⟩) M M] 29)))
        clear HROW
        generalize W1.alloc (.cells #[.int .i64 mn, .int .i64 mx, .bool true, .slice (some ⟨gb, 0, none⟩) M M] 29) = W2 at *
        generalize W1.heap.size = gm at *
        refine hK.out _ _ hS (fun _ => ?_)
        clear hK K
        try simp only [Act.put, List.setIfInBounds_toArray, List.set_cons_zero, List.set_cons_succ]
        refine wpAnyH_take (oi := ⟨_, _, _, _, _, _⟩) (i := 6) (v := .pointer (some ⟨gm, 0, none⟩)) rfl (by kernel_rfl) (by kernel_rfl) (by kernel_rfl) (fun _ _ _ h => h) (Or.inl ⟨by rfl, ?_⟩) (by assumption) ?_
        · (intro W hSw; (have l0 := hSw.1.at (k := 0) rfl); (have l1 := hSw.1.at (k := 1) rfl); (have l2 := hSw.1.at (k := 2) rfl); clear hSw; (have wm := HWM.out); go_simp; try (exact wrap_b8 _); try (with_reducible rfl))
        try simp only [Act.put, List.setIfInBounds_toArray, List.set_cons_zero, List.set_cons_succ]
        refine wpAnyH_done (by kernel_rfl) ?_ _
        have HL := hid hS.1
        have HV := hid hS.2.1
        have HB := hid hS.2.2
        clear hS
        go_upto_block 0 with (at_make; refine wpList_make_full _ rfl _ _ 27 rfl w.heap.size 5 i0 (.int .u8 0) 1 Try.underlying27 hi0 hz0 hz1 .i64 .i64 _ _ M rfl rfl rfl rfl (by rw [hz2]; have := HM1.out; omega) (by have := HM1.out; unfold maxLen; omega) HB.out.size ?_; intro wz hownz hgrowz)
        have hbz := (Below.refl W2.heap.size W2).grown hgrowz (Nat.le_refl _) (by simp)
        rw [madeB] at hownz
        have HRZ : Hid (Row w.heap.size 5 1 (some ⟨W2.heap.size, 0, none⟩) M M (repC [.int .u8 0] M) wz) := ⟨hownz, repC_one (by simp [Value.oneCell']) _⟩
        have HMZ := hid (HMEM.out.below hbz)
        have HLZ := hid (HL.out.below hbz HL.out.lt)
        have HVZ := hid (HV.out.below hbz HV.out.lt)
        have HBZ := hid (HB.out.trans (hbz.mono HB.out.size))
        have HGZ : Hid (gm < W2.heap.size) := HMEM.out.box.lt
        have HGZB : Hid (gb < W2.heap.size) := by have := HMEM.out.row.own.lt gb rfl; exact this.2
        have HGZW : Hid (w.heap.size ≤ W2.heap.size) := HB.out.size
        clear hbz hownz hgrowz HMEM HL HV HB
        generalize W2.heap.size = gz at *
        have hzl : Lib.byteCells (List.replicate M (0 : UInt8)) = repC [.int .u8 0] M := bytes_rep M 0
        rw [← hzl] at HRZ HMZ
        have hM62 : (M : Int) < 9223372036854775808 := by have := HM1.out; omega
        have HZL := hid (List.length_replicate (n := M) (a := (0 : UInt8)))
        generalize List.replicate M (0 : UInt8) = lz at HRZ HMZ HZL
        clear hzl
        have HZL2 : Hid (lz.length = M) := HZL.out
        have HK1 := hid hk1
        clear he hk1 hk hi0 hz0 hz1 hz2
        go_wp2
        go_loopw [15] (fun vi wr => ∃ (j : Nat) (l : List UInt8), vi = .int .i64 j ∧ Hid (j ≤ M + 1000) ∧ Hid (l.length = M) ∧ Hid (Row w.heap.size 5 1 (some ⟨gz, 0, none⟩) M M (Lib.byteCells l) wr) ∧ Hid (MemA w.heap.size gm mn mx true (some ⟨gb, 0, none⟩) M M (Lib.byteCells l) wr) ∧ Hid (CA w.heap.size #[.int .i64 mn, .int .i64 mx, .bool true] 23 wr) ∧ Hid (CA (w.heap.size + 1) #[.int .i64 x0, .int .u64 x1, .int .u64 x2, .bool x3] 32 wr) ∧ Hid (Below w.heap.size w wr)) (fun vi _ => M + 1000 - (intOf vi).toNat)
        case atStart => exact ⟨0, lz, rfl, Nat.zero_le _, HZL2, HRZ, HMZ, HLZ, HVZ, HBZ⟩
        case round =>
          obtain ⟨j, l, rfl, HJ, HLL, HR, HMM, HLi, HVi, HBi⟩ := hrel
          have hj62 : (j : Int) < 1000002000 := by have := HJ.out; have := HM1.out; omega
          by_cases hlt : j < M
          · have hjl : j < l.length := by rw [HLL.out]; exact hlt
            obtain ⟨g', cur, e, hB', hca, hcs⟩ := HR.out.pos (by omega)
            cases e
            obtain ⟨g'', cur2, e, hB2', hca2, hcs2⟩ := HMM.out.row.pos (by omega)
            cases e
            have z0 : wr.cell? ⟨gz, j, none⟩ = some (cur[j]'(by omega)) := hca.at (by rw [Array.getElem?_eq_getElem])
            have z1 := hca.free j
            have z2 : wr.cell? ⟨gb, j, none⟩ = some (cur2[j]'(by omega)) := hca2.at (by rw [Array.getElem?_eq_getElem])
            have z3 := hca2.free j
            have y3 := HMM.out.box.at (k := 3) (v := .slice (some ⟨gb, 0, none⟩) M M) rfl
            generalize cur[j]'_ = o0 at z0
            generalize cur2[j]'_ = o1 at z2
            have hne1 : gz ≠ gb := by have := HGZB.out; omega
            have hne2 : gz ≠ gm := by have := HGZ.out; omega
            have hne3 : gb ≠ gm := by
              intro e
              have := HMM.out.row.typ HMM.out.box (by decide)
              exact this (by rw [e]; rfl)
            have hne4 : gz ≠ w.heap.size := by have := HGZB.out; have := HGB.out; omega
            have hne5 : gz ≠ w.heap.size + 1 := by have := HGZB.out; have := HGB.out; omega
            have hne6 : gb ≠ w.heap.size := by have := HGB.out; omega
            have hne7 : gb ≠ w.heap.size + 1 := by have := HGB.out; omega
            obtain ⟨u, hu⟩ : ∃ u : UInt8, (u.toNat : Int) = (j : Int) % 256 := ⟨UInt8.ofNat j, by simp⟩
            have HCA := hid hca
            have HCA2 := hid hca2
            have HN1 := hid hne1
            have HN2 := hid hne2
            have HN3 := hid hne3
            have HN4 := hid hne4
            have HN5 := hid hne5
            have HN6 := hid hne6
            have HN7 := hid hne7
            have HJL := hid hjl
            have HU := hid hu
            have hne1s := Ne.symm hne1
            have hne2s := Ne.symm hne2
            clear hca hca2 hcs hcs2 hB' hB2' hne3 hne4 hne5 hne6 hne7 hjl hu
            go_wp2
            go_roundw
            case rel =>
              obtain ⟨W2, hW2⟩ : ∃ W2, W2 = wr.setCell ⟨gz, j, none⟩ (.int .u8 ((j : Int) % 256)) := ⟨_, rfl⟩
              have hset : Lib.byteCells (l.set j u) = splice (Lib.byteCells l) j [.int .u8 ((j : Int) % 256)] := by
                rw [← splice_one _ _ _ (by rw [Lib.byteCells_length]; exact HJL.out), ← HU.out]
                simp [Lib.byteCells, List.map_set]
              have hr1 : Row w.heap.size 5 1 (some ⟨gz, 0, none⟩) M M (Lib.byteCells (l.set j u)) W2 := by
                rw [hset]
                refine HR.out.splice (by rw [Lib.byteCells_length]; have := HJL.out; simp; omega) (by simp [Value.oneCell']) (fun cur3 hc3 => ?_)
                have h5 := (show CA gz cur3 5 wr from hc3).set (k := j) (.int .u8 ((j : Int) % 256))
                have hcl : j < cur3.toList.length := by
                  have h6 := HCA.out
                  unfold CA at h6
                  rw [h6] at hc3
                  cases hc3
                  have := HR.out.own
                  obtain ⟨g9, cur9, e9, _, hc9, hs9⟩ := HR.out.pos (by omega)
                  cases e9
                  unfold CA at hc9
                  rw [h6] at hc9
                  cases hc9
                  simp
                  omega
                rw [← splice_one _ _ _ hcl, hW2, show (cur3.toList.set j (.int .u8 ((j : Int) % 256))).toArray = cur3.setIfInBounds j (.int .u8 ((j : Int) % 256)) by rw [← Array.toList_setIfInBounds, Array.toArray_toList]]
                exact h5
              have hk1 : KP (some gz) wr W2 := by rw [hW2]; exact (KP.refl _ _).setCell (.inl rfl) _
              have hm1 : MemA w.heap.size gm mn mx true (some ⟨gb, 0, none⟩) M M (Lib.byteCells l) W2 := ⟨HMM.out.box.keep hk1 (by intro e; cases e; exact HN2.out rfl), HMM.out.row.keep hk1 (by rintro _ _ ⟨⟩ e; cases e; exact HN1.out rfl)⟩
              have hm2 : Row w.heap.size 5 1 (some ⟨gb, 0, none⟩) M M (Lib.byteCells (l.set j u)) (W2.setCell ⟨gb, j, none⟩ (.int .u8 ((j : Int) % 256))) := by
                rw [hset]
                refine hm1.row.splice (by rw [Lib.byteCells_length]; have := HJL.out; simp; omega) (by simp [Value.oneCell']) (fun cur3 hc3 => ?_)
                have h5 := (show CA gb cur3 5 W2 from hc3).set (k := j) (.int .u8 ((j : Int) % 256))
                have hcl : j < cur3.toList.length := by
                  obtain ⟨g9, cur9, e9, _, hc9, hs9⟩ := hm1.row.pos (by omega)
                  cases e9
                  unfold CA at hc9
                  rw [hc3] at hc9
                  cases hc9
                  simp
                  omega
                rw [← splice_one _ _ _ hcl, show (cur3.toList.set j (.int .u8 ((j : Int) % 256))).toArray = cur3.setIfInBounds j (.int .u8 ((j : Int) % 256)) by rw [← Array.toList_setIfInBounds, Array.toArray_toList]]
                exact h5
              have hk2 : KP (some gb) W2 (W2.setCell ⟨gb, j, none⟩ (.int .u8 ((j : Int) % 256))) := (KP.refl _ _).setCell (.inl rfl) _
              subst hW2
              refine ⟨j + 1000, l.set j u, by go_num, by show _ ≤ _; omega, by rw [List.length_set]; exact HLL, hr1.keep hk2 (by rintro _ _ ⟨⟩ e; cases e; exact HN1.out rfl), ⟨hm1.box.keep hk2 (by intro e; cases e; exact HN3.out rfl), hm2⟩, (HLi.out.keep hk1 (by intro e; cases e; exact HN4.out rfl)).keep hk2 (by intro e; cases e; exact HN6.out rfl), (HVi.out.keep hk1 (by intro e; cases e; exact HN5.out rfl)).keep hk2 (by intro e; cases e; exact HN7.out rfl), (HBi.out.setCell (p := ⟨gz, j, none⟩) HGZW.out _).setCell (p := ⟨gb, j, none⟩) HGW.out _⟩
            case measure => simp [intOf]; omega
          · have hk1 := HK1.out
            have hz3 : -9223372036854775808 ≤ mx := HMZB.out.1
            have hz4 : mx < 9223372036854775808 := HMZB.out.2
            obtain ⟨ok, hok⟩ : ∃ ok, roomB k n (lim65 most) mx true = ok := ⟨_, rfl⟩
            obtain ⟨N1, hN1⟩ : ∃ N1, N1 = 65536 * gN ok k (k + n) := ⟨_, rfl⟩
            obtain ⟨l1, hl1⟩ : ∃ l1, l1 = gX ok l (List.replicate (65536 * n) 0) := ⟨_, rfl⟩
            obtain ⟨E, hE⟩ : ∃ E, E = gE ok k := ⟨_, rfl⟩
            have PR : Hid (Calls Try.prog 18 #[.slice (some ⟨gz, 0, none⟩) M M, .agg #[.int .i64 mn, .int .i64 mx, .bool true], .int .u64 n, .int .i64 most] wr fun e w' => ∃ p' c', e = .returned (.tuple #[.slice p' N1 c', .int .i64 E]) ∧ Sl 1 p' N1 c' (Lib.byteCells l1) w' ∧ Below wr.heap.size wr w' ∧ NB wr (some ⟨gz, 0, none⟩) p') := by
              have h := rgrow_b (some ⟨gz, 0, none⟩) k M n most mn mx true (Lib.byteCells l) wr (HMK.out ▸ HR.out.sl) (by omega) hn h1 h2 hz3 hz4 ok hok
              rw [gX_bytes, ← hN1, ← hl1, ← hE, ← HMK.out] at h
              exact h
            have PGR : ∀ W, MemA w.heap.size gm mn mx true (some ⟨gb, 0, none⟩) M M (Lib.byteCells l) W → w.heap.size ≤ W.heap.size → Hid (Calls Try.prog 17 #[.pointer (some ⟨gm, 0, none⟩), .int .u64 n, .int .i64 most] W fun e w' => ∃ p' c', e = .returned (.int .i64 E) ∧ MemA w.heap.size gm mn mx true p' N1 c' (Lib.byteCells l1) w' ∧ KP (some gm) W w' ∧ NB W (some ⟨gb, 0, none⟩) p') := by
              intro W hm hB
              have h := grow_b w.heap.size gm mn mx true (some ⟨gb, 0, none⟩) k M n most (Lib.byteCells l) W (HMK.out ▸ hm) hB (by omega) hn h1 h2 hz3 hz4 ok hok
              rw [gX_bytes, ← hN1, ← hl1, ← hE] at h
              exact h
            have HG1 : Hid (gm ≠ w.heap.size) := HMM.out.box.ne HLi.out (by decide)
            have HG2 : Hid (gm ≠ w.heap.size + 1) := HMM.out.box.ne HVi.out (by decide)
            have HG3 : Hid (blk (some ⟨gz, 0, none⟩) ≠ some gm) := HR.out.typ HMM.out.box (by decide)
            have l0 := HLi.out.at (k := 0) (v := .int .i64 mn) rfl
            have l1' := HLi.out.at (k := 1) (v := .int .i64 mx) rfl
            have l2 := HLi.out.at (k := 2) (v := .bool true) rfl
            obtain ⟨ok2, hok2⟩ : ∃ ok2, roomB k n 10000 mx true = ok2 := ⟨_, rfl⟩
            obtain ⟨N2, hN2⟩ : ∃ N2, N2 = gN ok2 k (k + n) := ⟨_, rfl⟩
            obtain ⟨lk, hlk⟩ : ∃ lk, lk = List.replicate k (⟨5, 0, 0, false⟩ : V4) := ⟨_, rfl⟩
            obtain ⟨t2, ht2⟩ : ∃ t2, t2 = gX ok2 lk (List.replicate n (⟨x0, x1, x2, x3⟩ : V4)) := ⟨_, rfl⟩
            obtain ⟨E2, hE2⟩ : ∃ E2, E2 = gE ok2 k := ⟨_, rfl⟩
            have PREP : ∀ W : World, Hid (Calls Try.prog 22 #[.agg #[.int .i64 5, .int .u64 0, .int .u64 0, .bool false], .int .u64 k] W fun e w' => ∃ p' c', e = .returned (.slice p' k c') ∧ Row W.heap.size 32 4 p' k c' (cellsV lk) w' ∧ Below W.heap.size W w') := fun W => by
              have h := rep_says 5 0 0 false k (by omega) W
              have hc : cellsV lk = repC [.int .i64 5, .int .u64 0, .int .u64 0, .bool false] k := by rw [hlk]; exact cellsV_rep ⟨5, 0, 0, false⟩ k
              rw [hc]
              exact h
            have PRT : ∀ p c W, Sl 4 p k c (cellsV lk) W → Hid (Calls Try.prog 27 #[.slice p k c, .agg #[.int .i64 mn, .int .i64 mx, .bool true], .int .u64 n, .agg #[.int .i64 x0, .int .u64 x1, .int .u64 x2, .bool x3]] W fun e w' => ∃ p' c', e = .returned (.tuple #[.slice p' N2 c', .int .i64 E2]) ∧ Sl 4 p' N2 c' (cellsV t2) w' ∧ Below W.heap.size W w' ∧ NB W p p') := fun p c W hs => by
              have h := rgrow_v p k c n mn mx true x0 x1 x2 x3 (cellsV lk) W hs (by omega) hn hz3 hz4 ok2 hok2
              rw [show ([.int .i64 x0, .int .u64 x1, .int .u64 x2, .bool x3] : List Value) = (⟨x0, x1, x2, x3⟩ : V4).cs from rfl, gX_vals, ← hN2, ← ht2, ← hE2] at h
              exact h
            have PGT : ∀ p c gt W, TabA w.heap.size gt 0 mn mx true p k c (cellsV lk) W → w.heap.size ≤ W.heap.size → Hid (Calls Try.prog 26 #[.pointer (some ⟨gt, 0, none⟩), .int .u64 n, .agg #[.int .i64 x0, .int .u64 x1, .int .u64 x2, .bool x3]] W fun e w' => ∃ p' c', e = .returned (.int .i64 E2) ∧ TabA w.heap.size gt 0 mn mx true p' N2 c' (cellsV t2) w' ∧ KP (some gt) W w' ∧ NB W p p') := fun p c gt W ht hB => by
              have h := grow_v w.heap.size gt 0 mn mx true p k c n x0 x1 x2 x3 (cellsV lk) W hB ht (by omega) hn hz3 hz4 ok2 hok2
              rw [show ([.int .i64 x0, .int .u64 x1, .int .u64 x2, .bool x3] : List Value) = (⟨x0, x1, x2, x3⟩ : V4).cs from rfl, gX_vals, ← hN2, ← ht2, ← hE2] at h
              exact h
            have HWK : Hid (IntKind.u64.wrap (k : Int) = k) := by
              show _ = _
              rw [IntKind.wrap_u64]; omega
            have HSZK := hid hk1
            clear hz3 hz4 hok hN1 hl1 hE hok2 hN2 hlk ht2 hE2 hk1
            go_upto_region 14 with fail
            clear hlt hj62 hM62
            go_upto_region 15 with (go_at_call 18; (with_reducible refine PR.out.mono ?_); rintro e wA ⟨pA, cA, rfl, hsA, hbA, hnA⟩; have HSA := hid hsA; have HMA := hid (HMM.out.below hbA); have HLA := hid (HLi.out.below hbA HLi.out.lt); have HVA := hid (HVi.out.below hbA HVi.out.lt); have HBA := hid (HBi.out.trans (hbA.mono HBi.out.size)); have HNA : Hid (blk pA ≠ some gm) := (hnA gm HMM.out.box.lt HG3.out); clear hsA hbA hnA PR)
            clear HR HMM HLi HVi HBi l0 l1' l2
            go_upto_region 16 with (go_at_call 17; (with_reducible refine (PGR wA HMA.out HBA.out.size).out.mono ?_); rintro e wB ⟨pB, cB, rfl, hmB, hkB, hnB⟩; have HMB := hid hmB; have HSB := hid (HSA.out.keep hkB (by rintro g o rfl e; cases e; exact HNA.out rfl)); have HLB := hid (HLA.out.keep hkB (by intro e; cases e; exact HG1.out rfl)); have HVB := hid (HVA.out.keep hkB (by intro e; cases e; exact HG2.out rfl)); have HBB := hid (HBA.out.trans (hkB.below HBA.out.size (by rintro _ ⟨⟩; exact HGM.out))); clear hmB hkB hnB PGR)
            clear HSA HMA HLA HVA HBA
            have hS : CA w.heap.size #[.int .i64 mn, .int .i64 mx, .bool true] 23 wB.drew ∧ CA (w.heap.size + 1) #[.int .i64 x0, .int .u64 x1, .int .u64 x2, .bool x3] 32 wB.drew ∧ Below w.heap.size w wB.drew := ⟨HLB.out, HVB.out, ⟨HBB.out.os, HBB.out.tape, HBB.out.output, HBB.out.size, HBB.out.block⟩⟩
            have HMB2 : Hid (MemA w.heap.size gm mn mx true pB N1 cB (Lib.byteCells l1) wB.drew) := ⟨HMB.out.box, HMB.out.row.drew⟩
            have HSB2 : Hid (Sl 1 pA N1 cA (Lib.byteCells l1) wB.drew) := ⟨HSB.out.src.drew, HSB.out.cap, HSB.out.big, HSB.out.nil⟩
            refine wp_region_held_drew (S := fun W => CA w.heap.size #[.int .i64 mn, .int .i64 mx, .bool true] 23 W ∧ CA (w.heap.size + 1) #[.int .i64 x0, .int .u64 x1, .int .u64 x2, .bool x3] 32 W ∧ Below w.heap.size w W) (by kernel_rfl) hS (fun _ => ?_)
            clear HLB HVB HBB HMB HSB
            generalize wB.drew = W at *
            refine wpAnyH_take (oi := ⟨_, _, _, _, _, _⟩) (i := 0) (v := .agg #[.int .i64 mn, .int .i64 mx, .bool true]) rfl (by kernel_rfl) (by kernel_rfl) (by kernel_rfl) (fun _ _ _ h => h) (Or.inl ⟨by rfl, ?_⟩) (by assumption) ?_
            · (intro W hSw; (have l0 := hSw.1.at (k := 0) rfl); (have l1 := hSw.1.at (k := 1) rfl); (have l2 := hSw.1.at (k := 2) rfl); (have v0 := hSw.2.1.at (k := 0) rfl); (have v1 := hSw.2.1.at (k := 1) rfl); (have v2 := hSw.2.1.at (k := 2) rfl); (have v3 := hSw.2.1.at (k := 3) rfl); clear hSw; (have wk := HWK.out); go_simp; try (exact wrap_b8 _); try (with_reducible rfl))
            try simp only [Act.put, List.setIfInBounds_toArray, List.set_cons_zero, List.set_cons_succ]
            refine wpAnyH_take (oi := ⟨_, _, _, _, _, _⟩) (i := 1) (v := .agg #[.int .i64 0, .int .i64 mn, .int .i64 mx, .bool true]) rfl (by kernel_rfl) (by kernel_rfl) (by kernel_rfl) (fun _ _ _ h => h) (Or.inl ⟨by rfl, ?_⟩) (by assumption) ?_
            · (intro W hSw; (have l0 := hSw.1.at (k := 0) rfl); (have l1 := hSw.1.at (k := 1) rfl); (have l2 := hSw.1.at (k := 2) rfl); (have v0 := hSw.2.1.at (k := 0) rfl); (have v1 := hSw.2.1.at (k := 1) rfl); (have v2 := hSw.2.1.at (k := 2) rfl); (have v3 := hSw.2.1.at (k := 3) rfl); clear hSw; (have wk := HWK.out); go_simp; try (exact wrap_b8 _); try (with_reducible rfl))
            try simp only [Act.put, List.setIfInBounds_toArray, List.set_cons_zero, List.set_cons_succ]
            refine wpAnyH_take (oi := ⟨_, _, _, _, _, _⟩) (i := 2) (v := .agg #[.int .i64 5, .int .u64 0, .int .u64 0, .bool false]) rfl (by kernel_rfl) (by kernel_rfl) (by kernel_rfl) (fun _ _ _ h => h) (Or.inl ⟨by rfl, ?_⟩) (by assumption) ?_
            · (intro W hSw; (have l0 := hSw.1.at (k := 0) rfl); (have l1 := hSw.1.at (k := 1) rfl); (have l2 := hSw.1.at (k := 2) rfl); (have v0 := hSw.2.1.at (k := 0) rfl); (have v1 := hSw.2.1.at (k := 1) rfl); (have v2 := hSw.2.1.at (k := 2) rfl); (have v3 := hSw.2.1.at (k := 3) rfl); clear hSw; (have wk := HWK.out); go_simp; try (exact wrap_b8 _); try (with_reducible rfl))
            try simp only [Act.put, List.setIfInBounds_toArray, List.set_cons_zero, List.set_cons_succ]
            refine wpAnyH_take (oi := ⟨_, _, _, _, _, _⟩) (i := 3) (v := .int .i64 k) rfl (by kernel_rfl) (by kernel_rfl) (by kernel_rfl) (fun _ _ _ h => h) (Or.inl ⟨by rfl, ?_⟩) (by assumption) ?_
            · (intro W hSw; (have l0 := hSw.1.at (k := 0) rfl); (have l1 := hSw.1.at (k := 1) rfl); (have l2 := hSw.1.at (k := 2) rfl); (have v0 := hSw.2.1.at (k := 0) rfl); (have v1 := hSw.2.1.at (k := 1) rfl); (have v2 := hSw.2.1.at (k := 2) rfl); (have v3 := hSw.2.1.at (k := 3) rfl); clear hSw; (have wk := HWK.out); go_simp; try (exact wrap_b8 _); try (with_reducible rfl))
            try simp only [Act.put, List.setIfInBounds_toArray, List.set_cons_zero, List.set_cons_succ]
            refine wpAnyH_take (oi := ⟨_, _, _, _, _, _⟩) (i := 4) (v := .int .u64 k) rfl (by kernel_rfl) (by kernel_rfl) (by kernel_rfl) (fun _ _ _ h => h) (Or.inl ⟨by rfl, ?_⟩) (by assumption) ?_
            · (intro W hSw; (have l0 := hSw.1.at (k := 0) rfl); (have l1 := hSw.1.at (k := 1) rfl); (have l2 := hSw.1.at (k := 2) rfl); (have v0 := hSw.2.1.at (k := 0) rfl); (have v1 := hSw.2.1.at (k := 1) rfl); (have v2 := hSw.2.1.at (k := 2) rfl); (have v3 := hSw.2.1.at (k := 3) rfl); clear hSw; (have wk := HWK.out); go_simp; try (exact wrap_b8 _); try (with_reducible rfl))
            try simp only [Act.put, List.setIfInBounds_toArray, List.set_cons_zero, List.set_cons_succ]
            refine wpAnyH_ready (rs := [5]) (by kernel_rfl) (by simp) ?_
            refine AllReadyH.cons (o := ⟨_, _, _, _, _, _⟩) rfl (fun K hK => ?_) ?_
            · go_simp
              go_at_call 22
              (with_reducible refine (PREP _).out.mono ?_)
              rintro e W1 ⟨pT, cT, rfl, hrT, hb⟩
              have HRT : Hid (Row w.heap.size 32 4 pT k cT (cellsV lk) W1) := hrT.mono hS.2.2.size
              replace hS := And.intro (hS.1.below hb hS.1.lt) (And.intro (hS.2.1.below hb hS.2.1.lt) (hS.2.2.trans (hb.mono hS.2.2.size)))
              replace HMB2 := hid (HMB2.out.below hb)
              replace HSB2 := hid (HSB2.out.below hb)
              clear hrT hb
              refine hK.out _ _ hS (fun _ => ?_)
              clear hK K
              try simp only [Act.put, List.setIfInBounds_toArray, List.set_cons_zero, List.set_cons_succ]
              refine wpAnyH_take (oi := ⟨_, _, _, _, _, _⟩) (i := 6) (v := .agg #[.int .i64 0, .int .i64 mn, .int .i64 mx, .bool true, .slice pT k cT]) rfl (by kernel_rfl) (by kernel_rfl) (by kernel_rfl) (fun _ _ _ h => h) (Or.inl ⟨by rfl, ?_⟩) (by assumption) ?_
              · (intro W hSw; (have l0 := hSw.1.at (k := 0) rfl); (have l1 := hSw.1.at (k := 1) rfl); (have l2 := hSw.1.at (k := 2) rfl); (have v0 := hSw.2.1.at (k := 0) rfl); (have v1 := hSw.2.1.at (k := 1) rfl); (have v2 := hSw.2.1.at (k := 2) rfl); (have v3 := hSw.2.1.at (k := 3) rfl); clear hSw; (have wk := HWK.out); go_simp; try (exact wrap_b8 _); try (with_reducible rfl))
              try simp only [Act.put, List.setIfInBounds_toArray, List.set_cons_zero, List.set_cons_succ]
              refine wpAnyH_ready (rs := [7]) (by kernel_rfl) (by simp) ?_
              refine AllReadyH.cons (o := ⟨_, _, _, _, _, _⟩) rfl (fun K hK => ?_) ?_
              · go_simp
                have hb := (Below.refl W1.heap.size W1).alloc (Nat.le_refl _) (.cells #[.int .i64 0, .int .i64 mn, .int .i64 mx, .bool true, .slice pT k cT] 54)
                have HTT : Hid (TabA w.heap.size W1.heap.size 0 mn mx true pT k cT (cellsV lk) (W1.alloc (.cells #[.int .i64 0, .int .i64 mn, .int .i64 mx, .bool true, .slice pT k cT] 54))) := ⟨CA.new _ _ _, HRT.out.below hb⟩
                have HGT : Hid (w.heap.size ≤ W1.heap.size) := hS.2.2.size
                have HGTM : Hid (gm < W1.heap.size) := HMB2.out.box.lt
                have HGTV : Hid (w.heap.size + 1 < W1.heap.size) := hS.2.1.lt
                have HGTS : Hid (blk pA ≠ some W1.heap.size ∨ N1 = 0) := Sl.old HSB2.out (by decide)
                have HGTB : Hid (blk pB ≠ some W1.heap.size) := HMB2.out.row.old
                replace hS := And.intro (hS.1.below hb hS.1.lt) (And.intro (hS.2.1.below hb hS.2.1.lt) (hS.2.2.trans (hb.mono hS.2.2.size)))
                replace HMB2 := hid (HMB2.out.below hb)
                replace HSB2 := hid (HSB2.out.below hb)
                clear hb HRT
                generalize W1.alloc (.cells #[.int .i64 0, .int .i64 mn, .int .i64 mx, .bool true, .slice pT k cT] 54) = W2 at *
                generalize W1.heap.size = gt at *
                refine hK.out _ _ hS (fun _ => ?_)
                clear hK K
                try simp only [Act.put, List.setIfInBounds_toArray, List.set_cons_zero, List.set_cons_succ]
                refine wpAnyH_take (oi := ⟨_, _, _, _, _, _⟩) (i := 8) (v := .pointer (some ⟨gt, 0, none⟩)) rfl (by kernel_rfl) (by kernel_rfl) (by kernel_rfl) (fun _ _ _ h => h) (Or.inl ⟨by rfl, ?_⟩) (by assumption) ?_
                · (intro W hSw; (have l0 := hSw.1.at (k := 0) rfl); (have l1 := hSw.1.at (k := 1) rfl); (have l2 := hSw.1.at (k := 2) rfl); (have v0 := hSw.2.1.at (k := 0) rfl); (have v1 := hSw.2.1.at (k := 1) rfl); (have v2 := hSw.2.1.at (k := 2) rfl); (have v3 := hSw.2.1.at (k := 3) rfl); clear hSw; (have wk := HWK.out); go_simp; try (exact wrap_b8 _); try (with_reducible rfl))
                try simp only [Act.put, List.setIfInBounds_toArray, List.set_cons_zero, List.set_cons_succ]
                refine wpAnyH_done (by kernel_rfl) ?_ _
                have HF := hid hS
                clear hS
                go_upto_region 17 with fail
                have hS17 : CA w.heap.size #[.int .i64 mn, .int .i64 mx, .bool true] 23 W2.drew ∧ CA (w.heap.size + 1) #[.int .i64 x0, .int .u64 x1, .int .u64 x2, .bool x3] 32 W2.drew ∧ Below w.heap.size w W2.drew := ⟨HF.out.1, HF.out.2.1, ⟨HF.out.2.2.os, HF.out.2.2.tape, HF.out.2.2.output, HF.out.2.2.size, HF.out.2.2.block⟩⟩
                have HMB3 : Hid (MemA w.heap.size gm mn mx true pB N1 cB (Lib.byteCells l1) W2.drew) := ⟨HMB2.out.box, HMB2.out.row.drew⟩
                have HSB3 : Hid (Sl 1 pA N1 cA (Lib.byteCells l1) W2.drew) := ⟨HSB2.out.src.drew, HSB2.out.cap, HSB2.out.big, HSB2.out.nil⟩
                have HTT3 : Hid (TabA w.heap.size gt 0 mn mx true pT k cT (cellsV lk) W2.drew) := ⟨HTT.out.box, HTT.out.row.drew⟩
                refine wp_region_held_drew (S := fun W => CA w.heap.size #[.int .i64 mn, .int .i64 mx, .bool true] 23 W ∧ CA (w.heap.size + 1) #[.int .i64 x0, .int .u64 x1, .int .u64 x2, .bool x3] 32 W ∧ Below w.heap.size w W) (by kernel_rfl) hS17 (fun _ => ?_)
                have hS := hS17
                clear HF HMB2 HSB2 HTT hS17
                generalize W2.drew = W at *
                refine wpAnyH_take (oi := ⟨_, _, _, _, _, _⟩) (i := 0) (v := .agg #[.int .i64 5, .int .u64 0, .int .u64 0, .bool false]) rfl (by kernel_rfl) (by kernel_rfl) (by kernel_rfl) (fun _ _ _ h => h) (Or.inl ⟨by rfl, ?_⟩) (by assumption) ?_
                · (intro W hSw; (have l0 := hSw.1.at (k := 0) rfl); (have l1 := hSw.1.at (k := 1) rfl); (have l2 := hSw.1.at (k := 2) rfl); (have v0 := hSw.2.1.at (k := 0) rfl); (have v1 := hSw.2.1.at (k := 1) rfl); (have v2 := hSw.2.1.at (k := 2) rfl); (have v3 := hSw.2.1.at (k := 3) rfl); clear hSw; (have wk := HWK.out); go_simp; try (exact wrap_b8 _); try (with_reducible rfl))
                try simp only [Act.put, List.setIfInBounds_toArray, List.set_cons_zero, List.set_cons_succ]
                refine wpAnyH_take (oi := ⟨_, _, _, _, _, _⟩) (i := 1) (v := .int .i64 k) rfl (by kernel_rfl) (by kernel_rfl) (by kernel_rfl) (fun _ _ _ h => h) (Or.inl ⟨by rfl, ?_⟩) (by assumption) ?_
                · (intro W hSw; (have l0 := hSw.1.at (k := 0) rfl); (have l1 := hSw.1.at (k := 1) rfl); (have l2 := hSw.1.at (k := 2) rfl); (have v0 := hSw.2.1.at (k := 0) rfl); (have v1 := hSw.2.1.at (k := 1) rfl); (have v2 := hSw.2.1.at (k := 2) rfl); (have v3 := hSw.2.1.at (k := 3) rfl); clear hSw; (have wk := HWK.out); go_simp; try (exact wrap_b8 _); try (with_reducible rfl))
                try simp only [Act.put, List.setIfInBounds_toArray, List.set_cons_zero, List.set_cons_succ]
                refine wpAnyH_take (oi := ⟨_, _, _, _, _, _⟩) (i := 2) (v := .int .u64 k) rfl (by kernel_rfl) (by kernel_rfl) (by kernel_rfl) (fun _ _ _ h => h) (Or.inl ⟨by rfl, ?_⟩) (by assumption) ?_
                · (intro W hSw; (have l0 := hSw.1.at (k := 0) rfl); (have l1 := hSw.1.at (k := 1) rfl); (have l2 := hSw.1.at (k := 2) rfl); (have v0 := hSw.2.1.at (k := 0) rfl); (have v1 := hSw.2.1.at (k := 1) rfl); (have v2 := hSw.2.1.at (k := 2) rfl); (have v3 := hSw.2.1.at (k := 3) rfl); clear hSw; (have wk := HWK.out); go_simp; try (exact wrap_b8 _); try (with_reducible rfl))
                try simp only [Act.put, List.setIfInBounds_toArray, List.set_cons_zero, List.set_cons_succ]
                refine wpAnyH_take (oi := ⟨_, _, _, _, _, _⟩) (i := 4) (v := .agg #[.int .i64 mn, .int .i64 mx, .bool true]) rfl (by kernel_rfl) (by kernel_rfl) (by kernel_rfl) (fun _ _ _ h => h) (Or.inl ⟨by rfl, ?_⟩) (by assumption) ?_
                · (intro W hSw; (have l0 := hSw.1.at (k := 0) rfl); (have l1 := hSw.1.at (k := 1) rfl); (have l2 := hSw.1.at (k := 2) rfl); (have v0 := hSw.2.1.at (k := 0) rfl); (have v1 := hSw.2.1.at (k := 1) rfl); (have v2 := hSw.2.1.at (k := 2) rfl); (have v3 := hSw.2.1.at (k := 3) rfl); clear hSw; (have wk := HWK.out); go_simp; try (exact wrap_b8 _); try (with_reducible rfl))
                try simp only [Act.put, List.setIfInBounds_toArray, List.set_cons_zero, List.set_cons_succ]
                refine wpAnyH_take (oi := ⟨_, _, _, _, _, _⟩) (i := 5) (v := .int .u64 n) rfl (by kernel_rfl) (by kernel_rfl) (by kernel_rfl) (fun _ _ _ h => h) (Or.inl ⟨by rfl, ?_⟩) (by assumption) ?_
                · (intro W hSw; (have l0 := hSw.1.at (k := 0) rfl); (have l1 := hSw.1.at (k := 1) rfl); (have l2 := hSw.1.at (k := 2) rfl); (have v0 := hSw.2.1.at (k := 0) rfl); (have v1 := hSw.2.1.at (k := 1) rfl); (have v2 := hSw.2.1.at (k := 2) rfl); (have v3 := hSw.2.1.at (k := 3) rfl); clear hSw; (have wk := HWK.out); go_simp; try (exact wrap_b8 _); try (with_reducible rfl))
                try simp only [Act.put, List.setIfInBounds_toArray, List.set_cons_zero, List.set_cons_succ]
                refine wpAnyH_take (oi := ⟨_, _, _, _, _, _⟩) (i := 6) (v := .agg #[.int .i64 x0, .int .u64 x1, .int .u64 x2, .bool x3]) rfl (by kernel_rfl) (by kernel_rfl) (by kernel_rfl) (fun _ _ _ h => h) (Or.inl ⟨by rfl, ?_⟩) (by assumption) ?_
                · (intro W hSw; (have l0 := hSw.1.at (k := 0) rfl); (have l1 := hSw.1.at (k := 1) rfl); (have l2 := hSw.1.at (k := 2) rfl); (have v0 := hSw.2.1.at (k := 0) rfl); (have v1 := hSw.2.1.at (k := 1) rfl); (have v2 := hSw.2.1.at (k := 2) rfl); (have v3 := hSw.2.1.at (k := 3) rfl); clear hSw; (have wk := HWK.out); go_simp; try (exact wrap_b8 _); try (with_reducible rfl))
                try simp only [Act.put, List.setIfInBounds_toArray, List.set_cons_zero, List.set_cons_succ]
                refine wpAnyH_ready (rs := [3]) (by kernel_rfl) (by simp) ?_
                refine AllReadyH.cons (o := ⟨_, _, _, _, _, _⟩) rfl (fun K hK => ?_) ?_
                · go_simp
                  go_at_call 22
                  (with_reducible refine (PREP _).out.mono ?_)
                  rintro e W1 ⟨pU, cU, rfl, hrU, hb⟩
                  have HSU := hid hrU.sl
                  have HNU : Hid (blk pU ≠ some gt) := (by intro e; have h5 := hrU.blk_ge gt e; have h6 := HTT3.out.box.lt; omega)
                  replace hS := And.intro (hS.1.below hb hS.1.lt) (And.intro (hS.2.1.below hb hS.2.1.lt) (hS.2.2.trans (hb.mono hS.2.2.size)))
                  replace HMB3 := hid (HMB3.out.below hb)
                  replace HSB3 := hid (HSB3.out.below hb)
                  replace HTT3 := hid (HTT3.out.below hb)
                  clear hrU hb
                  refine hK.out _ _ hS (fun _ => ?_)
                  clear hK K
                  try simp only [Act.put, List.setIfInBounds_toArray, List.set_cons_zero, List.set_cons_succ]
                  refine wpAnyH_ready (rs := [7]) (by kernel_rfl) (by simp) ?_
                  refine AllReadyH.cons (o := ⟨_, _, _, _, _, _⟩) rfl (fun K hK => ?_) ?_
                  · go_simp
                    go_at_call 27
                    (with_reducible refine (PRT pU cU _ HSU.out).out.mono ?_)
                    rintro e W2 ⟨pV, cV, rfl, hsV, hb, hnV⟩
                    have HSV := hid hsV
                    have HNV : Hid (blk pV ≠ some gt) := hnV gt HTT3.out.box.lt HNU.out
                    replace hS := And.intro (hS.1.below hb hS.1.lt) (And.intro (hS.2.1.below hb hS.2.1.lt) (hS.2.2.trans (hb.mono hS.2.2.size)))
                    replace HMB3 := hid (HMB3.out.below hb)
                    replace HSB3 := hid (HSB3.out.below hb)
                    replace HTT3 := hid (HTT3.out.below hb)
                    clear hsV hb hnV HSU HNU
                    refine hK.out _ _ hS (fun _ => ?_)
                    clear hK K
                    try simp only [Act.put, List.setIfInBounds_toArray, List.set_cons_zero, List.set_cons_succ]
                    refine wpAnyH_take (oi := ⟨_, _, _, _, _, _⟩) (i := 8) (v := .tuple #[.slice pV N2 cV, .int .i64 E2]) rfl (by kernel_rfl) (by kernel_rfl) (by kernel_rfl) (fun _ _ _ h => h) (Or.inl ⟨by rfl, ?_⟩) (by assumption) ?_
                    · (intro W hSw; (have l0 := hSw.1.at (k := 0) rfl); (have l1 := hSw.1.at (k := 1) rfl); (have l2 := hSw.1.at (k := 2) rfl); (have v0 := hSw.2.1.at (k := 0) rfl); (have v1 := hSw.2.1.at (k := 1) rfl); (have v2 := hSw.2.1.at (k := 2) rfl); (have v3 := hSw.2.1.at (k := 3) rfl); clear hSw; (have wk := HWK.out); go_simp; try (exact wrap_b8 _); try (with_reducible rfl))
                    try simp only [Act.put, List.setIfInBounds_toArray, List.set_cons_zero, List.set_cons_succ]
                    refine wpAnyH_take (oi := ⟨_, _, _, _, _, _⟩) (i := 9) (v := .slice pV N2 cV) rfl (by kernel_rfl) (by kernel_rfl) (by kernel_rfl) (fun _ _ _ h => h) (Or.inl ⟨by rfl, ?_⟩) (by assumption) ?_
                    · (intro W hSw; (have l0 := hSw.1.at (k := 0) rfl); (have l1 := hSw.1.at (k := 1) rfl); (have l2 := hSw.1.at (k := 2) rfl); (have v0 := hSw.2.1.at (k := 0) rfl); (have v1 := hSw.2.1.at (k := 1) rfl); (have v2 := hSw.2.1.at (k := 2) rfl); (have v3 := hSw.2.1.at (k := 3) rfl); clear hSw; (have wk := HWK.out); go_simp; try (exact wrap_b8 _); try (with_reducible rfl))
                    try simp only [Act.put, List.setIfInBounds_toArray, List.set_cons_zero, List.set_cons_succ]
                    refine wpAnyH_take (oi := ⟨_, _, _, _, _, _⟩) (i := 10) (v := .int .i64 E2) rfl (by kernel_rfl) (by kernel_rfl) (by kernel_rfl) (fun _ _ _ h => h) (Or.inl ⟨by rfl, ?_⟩) (by assumption) ?_
                    · (intro W hSw; (have l0 := hSw.1.at (k := 0) rfl); (have l1 := hSw.1.at (k := 1) rfl); (have l2 := hSw.1.at (k := 2) rfl); (have v0 := hSw.2.1.at (k := 0) rfl); (have v1 := hSw.2.1.at (k := 1) rfl); (have v2 := hSw.2.1.at (k := 2) rfl); (have v3 := hSw.2.1.at (k := 3) rfl); clear hSw; (have wk := HWK.out); go_simp; try (exact wrap_b8 _); try (with_reducible rfl))
                    try simp only [Act.put, List.setIfInBounds_toArray, List.set_cons_zero, List.set_cons_succ]
                    refine wpAnyH_take (oi := ⟨_, _, _, _, _, _⟩) (i := 11) (v := .slice pV N2 cV) rfl (by kernel_rfl) (by kernel_rfl) (by kernel_rfl) (fun _ _ _ h => h) (Or.inl ⟨by rfl, ?_⟩) (by assumption) ?_
                    · (intro W hSw; (have l0 := hSw.1.at (k := 0) rfl); (have l1 := hSw.1.at (k := 1) rfl); (have l2 := hSw.1.at (k := 2) rfl); (have v0 := hSw.2.1.at (k := 0) rfl); (have v1 := hSw.2.1.at (k := 1) rfl); (have v2 := hSw.2.1.at (k := 2) rfl); (have v3 := hSw.2.1.at (k := 3) rfl); clear hSw; (have wk := HWK.out); go_simp; try (exact wrap_b8 _); try (with_reducible rfl))
                    try simp only [Act.put, List.setIfInBounds_toArray, List.set_cons_zero, List.set_cons_succ]
                    refine wpAnyH_take (oi := ⟨_, _, _, _, _, _⟩) (i := 12) (v := .int .i64 E2) rfl (by kernel_rfl) (by kernel_rfl) (by kernel_rfl) (fun _ _ _ h => h) (Or.inl ⟨by rfl, ?_⟩) (by assumption) ?_
                    · (intro W hSw; (have l0 := hSw.1.at (k := 0) rfl); (have l1 := hSw.1.at (k := 1) rfl); (have l2 := hSw.1.at (k := 2) rfl); (have v0 := hSw.2.1.at (k := 0) rfl); (have v1 := hSw.2.1.at (k := 1) rfl); (have v2 := hSw.2.1.at (k := 2) rfl); (have v3 := hSw.2.1.at (k := 3) rfl); clear hSw; (have wk := HWK.out); go_simp; try (exact wrap_b8 _); try (with_reducible rfl))
                    try simp only [Act.put, List.setIfInBounds_toArray, List.set_cons_zero, List.set_cons_succ]
                    refine wpAnyH_done (by kernel_rfl) ?_ _
                    have HF17 := hid hS
                    clear hS
                    have v0 := HF17.out.2.1.at (k := 0) (v := .int .i64 x0) rfl
                    have v1 := HF17.out.2.1.at (k := 1) (v := .int .u64 x1) rfl
                    have v2 := HF17.out.2.1.at (k := 2) (v := .int .u64 x2) rfl
                    have v3 := HF17.out.2.1.at (k := 3) (v := .bool x3) rfl
                    go_upto_region 19 with (go_at_call 26; (with_reducible refine (PGT pT cT gt W2 HTT3.out HF17.out.2.2.size).out.mono ?_); rintro e wX ⟨pX, cX, rfl, htX, hkX, hnX⟩; have HTX := hid htX; have HMX : Hid (MemA w.heap.size gm mn mx true pB N1 cB (Lib.byteCells l1) wX) := ⟨HMB3.out.box.keep hkX (by intro e; cases e; have := HGTM.out; omega), HMB3.out.row.keep hkX (by rintro g o rfl e; cases e; exact HGTB.out rfl)⟩; have HSX := hid (HSB3.out.keepO hkX HGTS.out); have HVX := hid (HSV.out.keepO hkX (.inl HNV.out)); have HBX := hid (HF17.out.2.2.trans (hkX.below HF17.out.2.2.size (by rintro _ ⟨⟩; exact HGT.out))); clear htX hkX hnX)
                    have hS19 : Below w.heap.size w wX.drew ∧ MemA w.heap.size gm mn mx true pB N1 cB (Lib.byteCells l1) wX.drew ∧ Sl 1 pA N1 cA (Lib.byteCells l1) wX.drew ∧ TabA w.heap.size gt 0 mn mx true pX N2 cX (cellsV t2) wX.drew ∧ Sl 4 pV N2 cV (cellsV t2) wX.drew := ⟨⟨HBX.out.os, HBX.out.tape, HBX.out.output, HBX.out.size, HBX.out.block⟩, ⟨HMX.out.box, HMX.out.row.drew⟩, ⟨HSX.out.src.drew, HSX.out.cap, HSX.out.big, HSX.out.nil⟩, ⟨HTX.out.box, HTX.out.row.drew⟩, ⟨HVX.out.src.drew, HVX.out.cap, HVX.out.big, HVX.out.nil⟩⟩
                    refine wp_region_held_drew (S := fun W => Below w.heap.size w W ∧ MemA w.heap.size gm mn mx true pB N1 cB (Lib.byteCells l1) W ∧ Sl 1 pA N1 cA (Lib.byteCells l1) W ∧ TabA w.heap.size gt 0 mn mx true pX N2 cX (cellsV t2) W ∧ Sl 4 pV N2 cV (cellsV t2) W) (by kernel_rfl) hS19 (fun _ => ?_)
                    clear HF17 HMB3 HSB3 HTT3 HTX HMX HSX HVX HBX v0 v1 v2 v3
                    have hS := hS19
                    clear hS19
                    generalize wX.drew = W at *
                    refine wpAnyH_take (oi := ⟨_, _, _, _, _, _⟩) (i := 0) (v := .int .i64 E) rfl (by kernel_rfl) (by kernel_rfl) (by kernel_rfl) (fun _ _ _ h => h) (Or.inl ⟨by rfl, ?_⟩) (by assumption) ?_
                    · (intro W hSw; (have y3 := hSw.2.1.box.at (k := 3) rfl); (have y4 := hSw.2.2.2.1.box.at (k := 4) rfl); (have cv1 := conv_bytes (c := cB) hSw.2.1.row.src); (have cv2 := conv_bytes (c := cA) hSw.2.2.1.src); clear hSw; go_simp; try (exact wrap_b8 _); try (with_reducible rfl))
                    try simp only [Act.put, List.setIfInBounds_toArray, List.set_cons_zero, List.set_cons_succ]
                    refine wpAnyH_take (oi := ⟨_, _, _, _, _, _⟩) (i := 1) (v := .int .i64 E) rfl (by kernel_rfl) (by kernel_rfl) (by kernel_rfl) (fun _ _ _ h => h) (Or.inl ⟨by rfl, ?_⟩) (by assumption) ?_
                    · (intro W hSw; (have y3 := hSw.2.1.box.at (k := 3) rfl); (have y4 := hSw.2.2.2.1.box.at (k := 4) rfl); (have cv1 := conv_bytes (c := cB) hSw.2.1.row.src); (have cv2 := conv_bytes (c := cA) hSw.2.2.1.src); clear hSw; go_simp; try (exact wrap_b8 _); try (with_reducible rfl))
                    try simp only [Act.put, List.setIfInBounds_toArray, List.set_cons_zero, List.set_cons_succ]
                    refine wpAnyH_take (oi := ⟨_, _, _, _, _, _⟩) (i := 2) (v := .bool true) rfl (by kernel_rfl) (by kernel_rfl) (by kernel_rfl) (fun _ _ _ h => h) (Or.inl ⟨by rfl, ?_⟩) (by assumption) ?_
                    · (intro W hSw; (have y3 := hSw.2.1.box.at (k := 3) rfl); (have y4 := hSw.2.2.2.1.box.at (k := 4) rfl); (have cv1 := conv_bytes (c := cB) hSw.2.1.row.src); (have cv2 := conv_bytes (c := cA) hSw.2.2.1.src); clear hSw; go_simp; try (exact wrap_b8 _); try (with_reducible rfl))
                    try simp only [Act.put, List.setIfInBounds_toArray, List.set_cons_zero, List.set_cons_succ]
                    refine wpAnyH_take (oi := ⟨_, _, _, _, _, _⟩) (i := 3) (v := .bool true) rfl (by kernel_rfl) (by kernel_rfl) (by kernel_rfl) (fun _ _ _ h => h) (Or.inl ⟨by rfl, ?_⟩) (by assumption) ?_
                    · (intro W hSw; (have y3 := hSw.2.1.box.at (k := 3) rfl); (have y4 := hSw.2.2.2.1.box.at (k := 4) rfl); (have cv1 := conv_bytes (c := cB) hSw.2.1.row.src); (have cv2 := conv_bytes (c := cA) hSw.2.2.1.src); clear hSw; go_simp; try (exact wrap_b8 _); try (with_reducible rfl))
                    try simp only [Act.put, List.setIfInBounds_toArray, List.set_cons_zero, List.set_cons_succ]
                    refine wpAnyH_take (oi := ⟨_, _, _, _, _, _⟩) (i := 4) (v := .pointer (some ⟨gm, 0, none⟩)) rfl (by kernel_rfl) (by kernel_rfl) (by kernel_rfl) (fun _ _ _ h => h) (Or.inl ⟨by rfl, ?_⟩) (by assumption) ?_
                    · (intro W hSw; (have y3 := hSw.2.1.box.at (k := 3) rfl); (have y4 := hSw.2.2.2.1.box.at (k := 4) rfl); (have cv1 := conv_bytes (c := cB) hSw.2.1.row.src); (have cv2 := conv_bytes (c := cA) hSw.2.2.1.src); clear hSw; go_simp; try (exact wrap_b8 _); try (with_reducible rfl))
                    try simp only [Act.put, List.setIfInBounds_toArray, List.set_cons_zero, List.set_cons_succ]
                    refine wpAnyH_take (oi := ⟨_, _, _, _, _, _⟩) (i := 5) (v := .pointer (some ⟨gm, 0, none⟩)) rfl (by kernel_rfl) (by kernel_rfl) (by kernel_rfl) (fun _ _ _ h => h) (Or.inl ⟨by rfl, ?_⟩) (by assumption) ?_
                    · (intro W hSw; (have y3 := hSw.2.1.box.at (k := 3) rfl); (have y4 := hSw.2.2.2.1.box.at (k := 4) rfl); (have cv1 := conv_bytes (c := cB) hSw.2.1.row.src); (have cv2 := conv_bytes (c := cA) hSw.2.2.1.src); clear hSw; go_simp; try (exact wrap_b8 _); try (with_reducible rfl))
                    try simp only [Act.put, List.setIfInBounds_toArray, List.set_cons_zero, List.set_cons_succ]
                    refine wpAnyH_take (oi := ⟨_, _, _, _, _, _⟩) (i := 6) (v := .pointer (some ⟨gm, 3, none⟩)) rfl (by kernel_rfl) (by kernel_rfl) (by kernel_rfl) (fun _ _ _ h => h) (Or.inl ⟨by rfl, ?_⟩) (by assumption) ?_
                    · (intro W hSw; (have y3 := hSw.2.1.box.at (k := 3) rfl); (have y4 := hSw.2.2.2.1.box.at (k := 4) rfl); (have cv1 := conv_bytes (c := cB) hSw.2.1.row.src); (have cv2 := conv_bytes (c := cA) hSw.2.2.1.src); clear hSw; go_simp; try (exact wrap_b8 _); try (with_reducible rfl))
                    try simp only [Act.put, List.setIfInBounds_toArray, List.set_cons_zero, List.set_cons_succ]
                    refine wpAnyH_take (oi := ⟨_, _, _, _, _, _⟩) (i := 7) (v := .slice pB N1 cB) rfl (by kernel_rfl) (by kernel_rfl) (by kernel_rfl) (fun _ _ _ h => h) (Or.inl ⟨by rfl, ?_⟩) (by assumption) ?_
                    · (intro W hSw; (have y3 := hSw.2.1.box.at (k := 3) rfl); (have y4 := hSw.2.2.2.1.box.at (k := 4) rfl); (have cv1 := conv_bytes (c := cB) hSw.2.1.row.src); (have cv2 := conv_bytes (c := cA) hSw.2.2.1.src); clear hSw; go_simp; try (exact wrap_b8 _); try (with_reducible rfl))
                    try simp only [Act.put, List.setIfInBounds_toArray, List.set_cons_zero, List.set_cons_succ]
                    refine wpAnyH_take (oi := ⟨_, _, _, _, _, _⟩) (i := 8) (v := .string ⟨l1.toArray⟩) rfl (by kernel_rfl) (by kernel_rfl) (by kernel_rfl) (fun _ _ _ h => h) (Or.inl ⟨by rfl, ?_⟩) (by assumption) ?_
                    · (intro W hSw; (have y3 := hSw.2.1.box.at (k := 3) rfl); (have y4 := hSw.2.2.2.1.box.at (k := 4) rfl); (have cv1 := conv_bytes (c := cB) hSw.2.1.row.src); (have cv2 := conv_bytes (c := cA) hSw.2.2.1.src); clear hSw; go_simp; try (exact wrap_b8 _); try (with_reducible rfl))
                    try simp only [Act.put, List.setIfInBounds_toArray, List.set_cons_zero, List.set_cons_succ]
                    refine wpAnyH_take (oi := ⟨_, _, _, _, _, _⟩) (i := 9) (v := .slice pA N1 cA) rfl (by kernel_rfl) (by kernel_rfl) (by kernel_rfl) (fun _ _ _ h => h) (Or.inl ⟨by rfl, ?_⟩) (by assumption) ?_
                    · (intro W hSw; (have y3 := hSw.2.1.box.at (k := 3) rfl); (have y4 := hSw.2.2.2.1.box.at (k := 4) rfl); (have cv1 := conv_bytes (c := cB) hSw.2.1.row.src); (have cv2 := conv_bytes (c := cA) hSw.2.2.1.src); clear hSw; go_simp; try (exact wrap_b8 _); try (with_reducible rfl))
                    try simp only [Act.put, List.setIfInBounds_toArray, List.set_cons_zero, List.set_cons_succ]
                    refine wpAnyH_take (oi := ⟨_, _, _, _, _, _⟩) (i := 10) (v := .string ⟨l1.toArray⟩) rfl (by kernel_rfl) (by kernel_rfl) (by kernel_rfl) (fun _ _ _ h => h) (Or.inl ⟨by rfl, ?_⟩) (by assumption) ?_
                    · (intro W hSw; (have y3 := hSw.2.1.box.at (k := 3) rfl); (have y4 := hSw.2.2.2.1.box.at (k := 4) rfl); (have cv1 := conv_bytes (c := cB) hSw.2.1.row.src); (have cv2 := conv_bytes (c := cA) hSw.2.2.1.src); clear hSw; go_simp; try (exact wrap_b8 _); try (with_reducible rfl))
                    try simp only [Act.put, List.setIfInBounds_toArray, List.set_cons_zero, List.set_cons_succ]
                    refine wpAnyH_take (oi := ⟨_, _, _, _, _, _⟩) (i := 11) (v := .bool true) rfl (by kernel_rfl) (by kernel_rfl) (by kernel_rfl) (fun _ _ _ h => h) (Or.inl ⟨by rfl, ?_⟩) (by assumption) ?_
                    · (intro W hSw; (have y3 := hSw.2.1.box.at (k := 3) rfl); (have y4 := hSw.2.2.2.1.box.at (k := 4) rfl); (have cv1 := conv_bytes (c := cB) hSw.2.1.row.src); (have cv2 := conv_bytes (c := cA) hSw.2.2.1.src); clear hSw; go_simp; try (exact wrap_b8 _); try (with_reducible rfl))
                    try simp only [Act.put, List.setIfInBounds_toArray, List.set_cons_zero, List.set_cons_succ]
                    refine wpAnyH_take (oi := ⟨_, _, _, _, _, _⟩) (i := 12) (v := .bool true) rfl (by kernel_rfl) (by kernel_rfl) (by kernel_rfl) (fun _ _ _ h => h) (Or.inl ⟨by rfl, ?_⟩) (by assumption) ?_
                    · (intro W hSw; (have y3 := hSw.2.1.box.at (k := 3) rfl); (have y4 := hSw.2.2.2.1.box.at (k := 4) rfl); (have cv1 := conv_bytes (c := cB) hSw.2.1.row.src); (have cv2 := conv_bytes (c := cA) hSw.2.2.1.src); clear hSw; go_simp; try (exact wrap_b8 _); try (with_reducible rfl))
                    try simp only [Act.put, List.setIfInBounds_toArray, List.set_cons_zero, List.set_cons_succ]
                    refine wpAnyH_take (oi := ⟨_, _, _, _, _, _⟩) (i := 13) (v := .bool true) rfl (by kernel_rfl) (by kernel_rfl) (by kernel_rfl) (fun _ _ _ h => h) (Or.inl ⟨by rfl, ?_⟩) (by assumption) ?_
                    · (intro W hSw; (have y3 := hSw.2.1.box.at (k := 3) rfl); (have y4 := hSw.2.2.2.1.box.at (k := 4) rfl); (have cv1 := conv_bytes (c := cB) hSw.2.1.row.src); (have cv2 := conv_bytes (c := cA) hSw.2.2.1.src); clear hSw; go_simp; try (exact wrap_b8 _); try (with_reducible rfl))
                    try simp only [Act.put, List.setIfInBounds_toArray, List.set_cons_zero, List.set_cons_succ]
                    refine wpAnyH_take (oi := ⟨_, _, _, _, _, _⟩) (i := 14) (v := .int .i64 E2) rfl (by kernel_rfl) (by kernel_rfl) (by kernel_rfl) (fun _ _ _ h => h) (Or.inl ⟨by rfl, ?_⟩) (by assumption) ?_
                    · (intro W hSw; (have y3 := hSw.2.1.box.at (k := 3) rfl); (have y4 := hSw.2.2.2.1.box.at (k := 4) rfl); (have cv1 := conv_bytes (c := cB) hSw.2.1.row.src); (have cv2 := conv_bytes (c := cA) hSw.2.2.1.src); clear hSw; go_simp; try (exact wrap_b8 _); try (with_reducible rfl))
                    try simp only [Act.put, List.setIfInBounds_toArray, List.set_cons_zero, List.set_cons_succ]
                    refine wpAnyH_take (oi := ⟨_, _, _, _, _, _⟩) (i := 15) (v := .int .i64 E2) rfl (by kernel_rfl) (by kernel_rfl) (by kernel_rfl) (fun _ _ _ h => h) (Or.inl ⟨by rfl, ?_⟩) (by assumption) ?_
                    · (intro W hSw; (have y3 := hSw.2.1.box.at (k := 3) rfl); (have y4 := hSw.2.2.2.1.box.at (k := 4) rfl); (have cv1 := conv_bytes (c := cB) hSw.2.1.row.src); (have cv2 := conv_bytes (c := cA) hSw.2.2.1.src); clear hSw; go_simp; try (exact wrap_b8 _); try (with_reducible rfl))
                    try simp only [Act.put, List.setIfInBounds_toArray, List.set_cons_zero, List.set_cons_succ]
                    refine wpAnyH_take (oi := ⟨_, _, _, _, _, _⟩) (i := 16) (v := .bool true) rfl (by kernel_rfl) (by kernel_rfl) (by kernel_rfl) (fun _ _ _ h => h) (Or.inl ⟨by rfl, ?_⟩) (by assumption) ?_
                    · (intro W hSw; (have y3 := hSw.2.1.box.at (k := 3) rfl); (have y4 := hSw.2.2.2.1.box.at (k := 4) rfl); (have cv1 := conv_bytes (c := cB) hSw.2.1.row.src); (have cv2 := conv_bytes (c := cA) hSw.2.2.1.src); clear hSw; go_simp; try (exact wrap_b8 _); try (with_reducible rfl))
                    try simp only [Act.put, List.setIfInBounds_toArray, List.set_cons_zero, List.set_cons_succ]
                    refine wpAnyH_take (oi := ⟨_, _, _, _, _, _⟩) (i := 17) (v := .bool true) rfl (by kernel_rfl) (by kernel_rfl) (by kernel_rfl) (fun _ _ _ h => h) (Or.inl ⟨by rfl, ?_⟩) (by assumption) ?_
                    · (intro W hSw; (have y3 := hSw.2.1.box.at (k := 3) rfl); (have y4 := hSw.2.2.2.1.box.at (k := 4) rfl); (have cv1 := conv_bytes (c := cB) hSw.2.1.row.src); (have cv2 := conv_bytes (c := cA) hSw.2.2.1.src); clear hSw; go_simp; try (exact wrap_b8 _); try (with_reducible rfl))
                    try simp only [Act.put, List.setIfInBounds_toArray, List.set_cons_zero, List.set_cons_succ]
                    refine wpAnyH_take (oi := ⟨_, _, _, _, _, _⟩) (i := 18) (v := .bool true) rfl (by kernel_rfl) (by kernel_rfl) (by kernel_rfl) (fun _ _ _ h => h) (Or.inl ⟨by rfl, ?_⟩) (by assumption) ?_
                    · (intro W hSw; (have y3 := hSw.2.1.box.at (k := 3) rfl); (have y4 := hSw.2.2.2.1.box.at (k := 4) rfl); (have cv1 := conv_bytes (c := cB) hSw.2.1.row.src); (have cv2 := conv_bytes (c := cA) hSw.2.2.1.src); clear hSw; go_simp; try (exact wrap_b8 _); try (with_reducible rfl))
                    try simp only [Act.put, List.setIfInBounds_toArray, List.set_cons_zero, List.set_cons_succ]
                    refine wpAnyH_take (oi := ⟨_, _, _, _, _, _⟩) (i := 19) (v := .pointer (some ⟨gt, 0, none⟩)) rfl (by kernel_rfl) (by kernel_rfl) (by kernel_rfl) (fun _ _ _ h => h) (Or.inl ⟨by rfl, ?_⟩) (by assumption) ?_
                    · (intro W hSw; (have y3 := hSw.2.1.box.at (k := 3) rfl); (have y4 := hSw.2.2.2.1.box.at (k := 4) rfl); (have cv1 := conv_bytes (c := cB) hSw.2.1.row.src); (have cv2 := conv_bytes (c := cA) hSw.2.2.1.src); clear hSw; go_simp; try (exact wrap_b8 _); try (with_reducible rfl))
                    try simp only [Act.put, List.setIfInBounds_toArray, List.set_cons_zero, List.set_cons_succ]
                    refine wpAnyH_take (oi := ⟨_, _, _, _, _, _⟩) (i := 20) (v := .pointer (some ⟨gt, 0, none⟩)) rfl (by kernel_rfl) (by kernel_rfl) (by kernel_rfl) (fun _ _ _ h => h) (Or.inl ⟨by rfl, ?_⟩) (by assumption) ?_
                    · (intro W hSw; (have y3 := hSw.2.1.box.at (k := 3) rfl); (have y4 := hSw.2.2.2.1.box.at (k := 4) rfl); (have cv1 := conv_bytes (c := cB) hSw.2.1.row.src); (have cv2 := conv_bytes (c := cA) hSw.2.2.1.src); clear hSw; go_simp; try (exact wrap_b8 _); try (with_reducible rfl))
                    try simp only [Act.put, List.setIfInBounds_toArray, List.set_cons_zero, List.set_cons_succ]
                    refine wpAnyH_take (oi := ⟨_, _, _, _, _, _⟩) (i := 21) (v := .pointer (some ⟨gt, 4, none⟩)) rfl (by kernel_rfl) (by kernel_rfl) (by kernel_rfl) (fun _ _ _ h => h) (Or.inl ⟨by rfl, ?_⟩) (by assumption) ?_
                    · (intro W hSw; (have y3 := hSw.2.1.box.at (k := 3) rfl); (have y4 := hSw.2.2.2.1.box.at (k := 4) rfl); (have cv1 := conv_bytes (c := cB) hSw.2.1.row.src); (have cv2 := conv_bytes (c := cA) hSw.2.2.1.src); clear hSw; go_simp; try (exact wrap_b8 _); try (with_reducible rfl))
                    try simp only [Act.put, List.setIfInBounds_toArray, List.set_cons_zero, List.set_cons_succ]
                    refine wpAnyH_take (oi := ⟨_, _, _, _, _, _⟩) (i := 22) (v := .slice pX N2 cX) rfl (by kernel_rfl) (by kernel_rfl) (by kernel_rfl) (fun _ _ _ h => h) (Or.inl ⟨by rfl, ?_⟩) (by assumption) ?_
                    · (intro W hSw; (have y3 := hSw.2.1.box.at (k := 3) rfl); (have y4 := hSw.2.2.2.1.box.at (k := 4) rfl); (have cv1 := conv_bytes (c := cB) hSw.2.1.row.src); (have cv2 := conv_bytes (c := cA) hSw.2.2.1.src); clear hSw; go_simp; try (exact wrap_b8 _); try (with_reducible rfl))
                    try simp only [Act.put, List.setIfInBounds_toArray, List.set_cons_zero, List.set_cons_succ]
                    refine wpAnyH_take (oi := ⟨_, _, _, _, _, _⟩) (i := 23) (v := .slice pV N2 cV) rfl (by kernel_rfl) (by kernel_rfl) (by kernel_rfl) (fun _ _ _ h => h) (Or.inl ⟨by rfl, ?_⟩) (by assumption) ?_
                    · (intro W hSw; (have y3 := hSw.2.1.box.at (k := 3) rfl); (have y4 := hSw.2.2.2.1.box.at (k := 4) rfl); (have cv1 := conv_bytes (c := cB) hSw.2.1.row.src); (have cv2 := conv_bytes (c := cA) hSw.2.2.1.src); clear hSw; go_simp; try (exact wrap_b8 _); try (with_reducible rfl))
                    try simp only [Act.put, List.setIfInBounds_toArray, List.set_cons_zero, List.set_cons_succ]
                    refine wpAnyH_ready (rs := [24]) (by kernel_rfl) (by simp) ?_
                    refine AllReadyH.cons (o := ⟨_, _, _, _, _, _⟩) rfl (fun K hK => ?_) ?_
                    · go_simp
                      go_at_call 28
                      (with_reducible refine (same_says pX pV N2 cX cV t2 _ hS.2.2.2.1.row.sl hS.2.2.2.2).mono ?_)
                      rintro e W1 ⟨rfl, hb⟩
                      replace hS := And.intro (hS.1.trans (hb.mono hS.1.size)) (And.intro (hS.2.1.below hb) (And.intro (hS.2.2.1.below hb) (And.intro (hS.2.2.2.1.below hb) (hS.2.2.2.2.below hb))))
                      clear hb
                      refine hK.out _ _ hS (fun _ => ?_)
                      clear hK K
                      try simp only [Act.put, List.setIfInBounds_toArray, List.set_cons_zero, List.set_cons_succ]
                      refine wpAnyH_take (oi := ⟨_, _, _, _, _, _⟩) (i := 25) (v := .bool true) rfl (by kernel_rfl) (by kernel_rfl) (by kernel_rfl) (fun _ _ _ h => h) (Or.inl ⟨by rfl, ?_⟩) (by assumption) ?_
                      · (intro W hSw; (have y3 := hSw.2.1.box.at (k := 3) rfl); (have y4 := hSw.2.2.2.1.box.at (k := 4) rfl); (have cv1 := conv_bytes (c := cB) hSw.2.1.row.src); (have cv2 := conv_bytes (c := cA) hSw.2.2.1.src); clear hSw; go_simp; try (exact wrap_b8 _); try (with_reducible rfl))
                      try simp only [Act.put, List.setIfInBounds_toArray, List.set_cons_zero, List.set_cons_succ]
                      refine wpAnyH_take (oi := ⟨_, _, _, _, _, _⟩) (i := 26) (v := .bool true) rfl (by kernel_rfl) (by kernel_rfl) (by kernel_rfl) (fun _ _ _ h => h) (Or.inl ⟨by rfl, ?_⟩) (by assumption) ?_
                      · (intro W hSw; (have y3 := hSw.2.1.box.at (k := 3) rfl); (have y4 := hSw.2.2.2.1.box.at (k := 4) rfl); (have cv1 := conv_bytes (c := cB) hSw.2.1.row.src); (have cv2 := conv_bytes (c := cA) hSw.2.2.1.src); clear hSw; go_simp; try (exact wrap_b8 _); try (with_reducible rfl))
                      try simp only [Act.put, List.setIfInBounds_toArray, List.set_cons_zero, List.set_cons_succ]
                      refine wpAnyH_done (by kernel_rfl) ?_ _
                      have HF := hid hS.1
                      clear hS
                      go_wp2
                      go_ret
                      exact ⟨rfl, HF.out⟩
                    exact AllReadyH.nil
                  exact AllReadyH.nil
                exact AllReadyH.nil
              exact AllReadyH.nil
            exact AllReadyH.nil
      exact AllReadyH.nil
    exact AllReadyH.nil

  · go_upto_region 7 with fail
    have HMZB : Hid (-9223372036854775808 ≤ (4 : Int) ∧ (4 : Int) < 9223372036854775808) := ⟨by decide, by decide⟩
    have HL2 : Hid (CA w.heap.size #[.int .i64 mn, .int .i64 4, .bool true] 23 (((w1.setCell ⟨w.heap.size, 0, none⟩ (.int .i64 mn)).setCell ⟨w.heap.size, 1, none⟩ (.int .i64 4)).setCell ⟨w.heap.size, 2, none⟩ (.bool true))) := ((HL1.out.set (k := 0) _).set (k := 1) _).set (k := 2) _
    have hk3 : KP (some w.heap.size) w1 (((w1.setCell ⟨w.heap.size, 0, none⟩ (.int .i64 mn)).setCell ⟨w.heap.size, 1, none⟩ (.int .i64 4)).setCell ⟨w.heap.size, 2, none⟩ (.bool true)) := (((KP.refl _ _).setCell (.inl rfl) _).setCell (.inl rfl) _).setCell (.inl rfl) _
    have HV2 := hid (HV1.out.keep hk3 (by intro e; simp at e))
    have HB2 := hid (((HB1.out.setCell (p := ⟨w.heap.size, 0, none⟩) (Nat.le_refl _) (.int .i64 mn)).setCell (p := ⟨w.heap.size, 1, none⟩) (Nat.le_refl _) (.int .i64 4)).setCell (p := ⟨w.heap.size, 2, none⟩) (Nat.le_refl _) (.bool true))
    clear HL1 HV1 HB1 y0 y1 y2 f0 f1 f2 h3 h4 hk3
    generalize ((w1.setCell ⟨w.heap.size, 0, none⟩ (.int .i64 mn)).setCell ⟨w.heap.size, 1, none⟩ (.int .i64 4)).setCell ⟨w.heap.size, 2, none⟩ (.bool true) = W0 at *
    have hS : CA w.heap.size #[.int .i64 mn, .int .i64 (4 : Int), .bool true] 23 W0.drew ∧ CA (w.heap.size + 1) #[.int .i64 x0, .int .u64 x1, .int .u64 x2, .bool x3] 32 W0.drew ∧ Below w.heap.size w W0.drew := ⟨HL2.out, HV2.out, ⟨HB2.out.os, HB2.out.tape, HB2.out.output, HB2.out.size, HB2.out.block⟩⟩
    refine wp_region_held_drew (S := fun W => CA w.heap.size #[.int .i64 mn, .int .i64 (4 : Int), .bool true] 23 W ∧ CA (w.heap.size + 1) #[.int .i64 x0, .int .u64 x1, .int .u64 x2, .bool x3] 32 W ∧ Below w.heap.size w W) (by kernel_rfl) hS (fun _ => ?_)
    clear HL2 HV2 HB2
    generalize W0.drew = W at *
    refine wpAnyH_take (oi := ⟨_, _, _, _, _, _⟩) (i := 0) (v := .agg #[.int .i64 mn, .int .i64 (4 : Int), .bool true]) rfl (by kernel_rfl) (by kernel_rfl) (by kernel_rfl) (fun _ _ _ h => h) (Or.inl ⟨by rfl, ?_⟩) (by assumption) ?_
    · (intro W hSw; (have l0 := hSw.1.at (k := 0) rfl); (have l1 := hSw.1.at (k := 1) rfl); (have l2 := hSw.1.at (k := 2) rfl); clear hSw; (have wm := HWM.out); go_simp; try (exact wrap_b8 _); try (with_reducible rfl))
    try simp only [Act.put, List.setIfInBounds_toArray, List.set_cons_zero, List.set_cons_succ]
    refine wpAnyH_take (oi := ⟨_, _, _, _, _, _⟩) (i := 1) (v := .int .i64 k) rfl (by kernel_rfl) (by kernel_rfl) (by kernel_rfl) (fun _ _ _ h => h) (Or.inl ⟨by rfl, ?_⟩) (by assumption) ?_
    · (intro W hSw; (have l0 := hSw.1.at (k := 0) rfl); (have l1 := hSw.1.at (k := 1) rfl); (have l2 := hSw.1.at (k := 2) rfl); clear hSw; (have wm := HWM.out); go_simp; try (exact wrap_b8 _); try (with_reducible rfl))
    try simp only [Act.put, List.setIfInBounds_toArray, List.set_cons_zero, List.set_cons_succ]
    refine wpAnyH_take (oi := ⟨_, _, _, _, _, _⟩) (i := 2) (v := .int .i64 M) rfl (by kernel_rfl) (by kernel_rfl) (by kernel_rfl) (fun _ _ _ h => h) (Or.inl ⟨by rfl, ?_⟩) (by assumption) ?_
    · (intro W hSw; (have l0 := hSw.1.at (k := 0) rfl); (have l1 := hSw.1.at (k := 1) rfl); (have l2 := hSw.1.at (k := 2) rfl); clear hSw; (have wm := HWM.out); go_simp; try (exact wrap_b8 _); try (with_reducible rfl))
    try simp only [Act.put, List.setIfInBounds_toArray, List.set_cons_zero, List.set_cons_succ]
    refine wpAnyH_ready (rs := [3]) (by kernel_rfl) (by simp) ?_
    refine AllReadyH.cons (o := ⟨_, _, _, _, _, _⟩) rfl (fun K hK => ?_) ?_
    · refine make_S rfl (.tmp 41) (.tmp 41) rfl M rfl rfl HM1.out w.heap.size hS.2.2.size ?_
      intro W1 hrow hbel
      have HROW := hid hrow
      have HGB : Hid (w.heap.size + 1 < W.heap.size) := hS.2.1.lt
      have HGW : Hid (w.heap.size ≤ W.heap.size) := hS.2.2.size
      replace hS := And.intro (hS.1.below hbel hS.1.lt) (And.intro (hS.2.1.below hbel hS.2.1.lt) (hS.2.2.trans (hbel.mono hS.2.2.size)))
      clear hrow hbel
      generalize W.heap.size = gb at *
      refine hK.out _ _ hS (fun _ => ?_)
      clear hK K
      try simp only [Act.put, List.setIfInBounds_toArray, List.set_cons_zero, List.set_cons_succ]
      refine wpAnyH_take (oi := ⟨_, _, _, _, _, _⟩) (i := 4) (v := .agg #[.int .i64 mn, .int .i64 (4 : Int), .bool true, .slice (some ⟨gb, 0, none⟩) M M]) rfl (by kernel_rfl) (by kernel_rfl) (by kernel_rfl) (fun _ _ _ h => h) (Or.inl ⟨by rfl, ?_⟩) (by assumption) ?_
      · (intro W hSw; (have l0 := hSw.1.at (k := 0) rfl); (have l1 := hSw.1.at (k := 1) rfl); (have l2 := hSw.1.at (k := 2) rfl); clear hSw; (have wm := HWM.out); go_simp; try (exact wrap_b8 _); try (with_reducible rfl))
      try simp only [Act.put, List.setIfInBounds_toArray, List.set_cons_zero, List.set_cons_succ]
      refine wpAnyH_ready (rs := [5]) (by kernel_rfl) (by simp) ?_
      refine AllReadyH.cons (o := ⟨_, _, _, _, _, _⟩) rfl (fun K hK => ?_) ?_
      · go_simp
        have HMEM : Hid (MemA w.heap.size W1.heap.size mn (4 : Int) true (some ⟨gb, 0, none⟩) M M (repC [.int .u8 0] M) (W1.alloc (.cells #[.int .i64 mn, .int .i64 (4 : Int), .bool true, .slice (some ⟨gb, 0, none⟩) M M] 29))) := ⟨CA.new _ _ _, HROW.out.below ((Below.refl _ _).alloc (Nat.le_refl _) _)⟩
        have HGM : Hid (w.heap.size ≤ W1.heap.size) := hS.2.2.size
        replace hS := And.intro (hS.1.alloc (.cells #[.int .i64 mn, .int .i64 (4 : Int), .bool true, .slice (some ⟨gb, 0, none⟩) M M] 29)) (And.intro (hS.2.1.alloc (.cells #[.int .i64 mn, .int .i64 (4 : Int), .bool true, .slice (some ⟨gb, 0, none⟩) M M] 29)) (hS.2.2.alloc hS.2.2.size (.cells #[.int .i64 mn, .int .i64 (4 : Int), .bool true, .slice (some ⟨gb, 0, none⟩) M M] 29)))
        clear HROW
        generalize W1.alloc (.cells #[.int .i64 mn, .int .i64 (4 : Int), .bool true, .slice (some ⟨gb, 0, none⟩) M M] 29) = W2 at *
        generalize W1.heap.size = gm at *
        refine hK.out _ _ hS (fun _ => ?_)
        clear hK K
        try simp only [Act.put, List.setIfInBounds_toArray, List.set_cons_zero, List.set_cons_succ]
        refine wpAnyH_take (oi := ⟨_, _, _, _, _, _⟩) (i := 6) (v := .pointer (some ⟨gm, 0, none⟩)) rfl (by kernel_rfl) (by kernel_rfl) (by kernel_rfl) (fun _ _ _ h => h) (Or.inl ⟨by rfl, ?_⟩) (by assumption) ?_
        · (intro W hSw; (have l0 := hSw.1.at (k := 0) rfl); (have l1 := hSw.1.at (k := 1) rfl); (have l2 := hSw.1.at (k := 2) rfl); clear hSw; (have wm := HWM.out); go_simp; try (exact wrap_b8 _); try (with_reducible rfl))
        try simp only [Act.put, List.setIfInBounds_toArray, List.set_cons_zero, List.set_cons_succ]
        refine wpAnyH_done (by kernel_rfl) ?_ _
        have HL := hid hS.1
        have HV := hid hS.2.1
        have HB := hid hS.2.2
        clear hS
        go_upto_block 0 with (at_make; refine wpList_make_full _ rfl _ _ 27 rfl w.heap.size 5 i0 (.int .u8 0) 1 Try.underlying27 hi0 hz0 hz1 .i64 .i64 _ _ M rfl rfl rfl rfl (by rw [hz2]; have := HM1.out; omega) (by have := HM1.out; unfold maxLen; omega) HB.out.size ?_; intro wz hownz hgrowz)
        have hbz := (Below.refl W2.heap.size W2).grown hgrowz (Nat.le_refl _) (by simp)
        rw [madeB] at hownz
        have HRZ : Hid (Row w.heap.size 5 1 (some ⟨W2.heap.size, 0, none⟩) M M (repC [.int .u8 0] M) wz) := ⟨hownz, repC_one (by simp [Value.oneCell']) _⟩
        have HMZ := hid (HMEM.out.below hbz)
        have HLZ := hid (HL.out.below hbz HL.out.lt)
        have HVZ := hid (HV.out.below hbz HV.out.lt)
        have HBZ := hid (HB.out.trans (hbz.mono HB.out.size))
        have HGZ : Hid (gm < W2.heap.size) := HMEM.out.box.lt
        have HGZB : Hid (gb < W2.heap.size) := by have := HMEM.out.row.own.lt gb rfl; exact this.2
        have HGZW : Hid (w.heap.size ≤ W2.heap.size) := HB.out.size
        clear hbz hownz hgrowz HMEM HL HV HB
        generalize W2.heap.size = gz at *
        have hzl : Lib.byteCells (List.replicate M (0 : UInt8)) = repC [.int .u8 0] M := bytes_rep M 0
        rw [← hzl] at HRZ HMZ
        have hM62 : (M : Int) < 9223372036854775808 := by have := HM1.out; omega
        have HZL := hid (List.length_replicate (n := M) (a := (0 : UInt8)))
        generalize List.replicate M (0 : UInt8) = lz at HRZ HMZ HZL
        clear hzl
        have HZL2 : Hid (lz.length = M) := HZL.out
        have HK1 := hid hk1
        clear he hk1 hk hi0 hz0 hz1 hz2
        go_wp2
        go_loopw [15] (fun vi wr => ∃ (j : Nat) (l : List UInt8), vi = .int .i64 j ∧ Hid (j ≤ M + 1000) ∧ Hid (l.length = M) ∧ Hid (Row w.heap.size 5 1 (some ⟨gz, 0, none⟩) M M (Lib.byteCells l) wr) ∧ Hid (MemA w.heap.size gm mn (4 : Int) true (some ⟨gb, 0, none⟩) M M (Lib.byteCells l) wr) ∧ Hid (CA w.heap.size #[.int .i64 mn, .int .i64 (4 : Int), .bool true] 23 wr) ∧ Hid (CA (w.heap.size + 1) #[.int .i64 x0, .int .u64 x1, .int .u64 x2, .bool x3] 32 wr) ∧ Hid (Below w.heap.size w wr)) (fun vi _ => M + 1000 - (intOf vi).toNat)
        case atStart => exact ⟨0, lz, rfl, Nat.zero_le _, HZL2, HRZ, HMZ, HLZ, HVZ, HBZ⟩
        case round =>
          obtain ⟨j, l, rfl, HJ, HLL, HR, HMM, HLi, HVi, HBi⟩ := hrel
          have hj62 : (j : Int) < 1000002000 := by have := HJ.out; have := HM1.out; omega
          by_cases hlt : j < M
          · have hjl : j < l.length := by rw [HLL.out]; exact hlt
            obtain ⟨g', cur, e, hB', hca, hcs⟩ := HR.out.pos (by omega)
            cases e
            obtain ⟨g'', cur2, e, hB2', hca2, hcs2⟩ := HMM.out.row.pos (by omega)
            cases e
            have z0 : wr.cell? ⟨gz, j, none⟩ = some (cur[j]'(by omega)) := hca.at (by rw [Array.getElem?_eq_getElem])
            have z1 := hca.free j
            have z2 : wr.cell? ⟨gb, j, none⟩ = some (cur2[j]'(by omega)) := hca2.at (by rw [Array.getElem?_eq_getElem])
            have z3 := hca2.free j
            have y3 := HMM.out.box.at (k := 3) (v := .slice (some ⟨gb, 0, none⟩) M M) rfl
            generalize cur[j]'_ = o0 at z0
            generalize cur2[j]'_ = o1 at z2
            have hne1 : gz ≠ gb := by have := HGZB.out; omega
            have hne2 : gz ≠ gm := by have := HGZ.out; omega
            have hne3 : gb ≠ gm := by
              intro e
              have := HMM.out.row.typ HMM.out.box (by decide)
              exact this (by rw [e]; rfl)
            have hne4 : gz ≠ w.heap.size := by have := HGZB.out; have := HGB.out; omega
            have hne5 : gz ≠ w.heap.size + 1 := by have := HGZB.out; have := HGB.out; omega
            have hne6 : gb ≠ w.heap.size := by have := HGB.out; omega
            have hne7 : gb ≠ w.heap.size + 1 := by have := HGB.out; omega
            obtain ⟨u, hu⟩ : ∃ u : UInt8, (u.toNat : Int) = (j : Int) % 256 := ⟨UInt8.ofNat j, by simp⟩
            have HCA := hid hca
            have HCA2 := hid hca2
            have HN1 := hid hne1
            have HN2 := hid hne2
            have HN3 := hid hne3
            have HN4 := hid hne4
            have HN5 := hid hne5
            have HN6 := hid hne6
            have HN7 := hid hne7
            have HJL := hid hjl
            have HU := hid hu
            have hne1s := Ne.symm hne1
            have hne2s := Ne.symm hne2
            clear hca hca2 hcs hcs2 hB' hB2' hne3 hne4 hne5 hne6 hne7 hjl hu
            go_wp2
            go_roundw
            case rel =>
              obtain ⟨W2, hW2⟩ : ∃ W2, W2 = wr.setCell ⟨gz, j, none⟩ (.int .u8 ((j : Int) % 256)) := ⟨_, rfl⟩
              have hset : Lib.byteCells (l.set j u) = splice (Lib.byteCells l) j [.int .u8 ((j : Int) % 256)] := by
                rw [← splice_one _ _ _ (by rw [Lib.byteCells_length]; exact HJL.out), ← HU.out]
                simp [Lib.byteCells, List.map_set]
              have hr1 : Row w.heap.size 5 1 (some ⟨gz, 0, none⟩) M M (Lib.byteCells (l.set j u)) W2 := by
                rw [hset]
                refine HR.out.splice (by rw [Lib.byteCells_length]; have := HJL.out; simp; omega) (by simp [Value.oneCell']) (fun cur3 hc3 => ?_)
                have h5 := (show CA gz cur3 5 wr from hc3).set (k := j) (.int .u8 ((j : Int) % 256))
                have hcl : j < cur3.toList.length := by
                  have h6 := HCA.out
                  unfold CA at h6
                  rw [h6] at hc3
                  cases hc3
                  have := HR.out.own
                  obtain ⟨g9, cur9, e9, _, hc9, hs9⟩ := HR.out.pos (by omega)
                  cases e9
                  unfold CA at hc9
                  rw [h6] at hc9
                  cases hc9
                  simp
                  omega
                rw [← splice_one _ _ _ hcl, hW2, show (cur3.toList.set j (.int .u8 ((j : Int) % 256))).toArray = cur3.setIfInBounds j (.int .u8 ((j : Int) % 256)) by rw [← Array.toList_setIfInBounds, Array.toArray_toList]]
                exact h5
              have hk1 : KP (some gz) wr W2 := by rw [hW2]; exact (KP.refl _ _).setCell (.inl rfl) _
              have hm1 : MemA w.heap.size gm mn (4 : Int) true (some ⟨gb, 0, none⟩) M M (Lib.byteCells l) W2 := ⟨HMM.out.box.keep hk1 (by intro e; cases e; exact HN2.out rfl), HMM.out.row.keep hk1 (by rintro _ _ ⟨⟩ e; cases e; exact HN1.out rfl)⟩
              have hm2 : Row w.heap.size 5 1 (some ⟨gb, 0, none⟩) M M (Lib.byteCells (l.set j u)) (W2.setCell ⟨gb, j, none⟩ (.int .u8 ((j : Int) % 256))) := by
                rw [hset]
                refine hm1.row.splice (by rw [Lib.byteCells_length]; have := HJL.out; simp; omega) (by simp [Value.oneCell']) (fun cur3 hc3 => ?_)
                have h5 := (show CA gb cur3 5 W2 from hc3).set (k := j) (.int .u8 ((j : Int) % 256))
                have hcl : j < cur3.toList.length := by
                  obtain ⟨g9, cur9, e9, _, hc9, hs9⟩ := hm1.row.pos (by omega)
                  cases e9
                  unfold CA at hc9
                  rw [hc3] at hc9
                  cases hc9
                  simp
                  omega
                rw [← splice_one _ _ _ hcl, show (cur3.toList.set j (.int .u8 ((j : Int) % 256))).toArray = cur3.setIfInBounds j (.int .u8 ((j : Int) % 256)) by rw [← Array.toList_setIfInBounds, Array.toArray_toList]]
                exact h5
              have hk2 : KP (some gb) W2 (W2.setCell ⟨gb, j, none⟩ (.int .u8 ((j : Int) % 256))) := (KP.refl _ _).setCell (.inl rfl) _
              subst hW2
              refine ⟨j + 1000, l.set j u, by go_num, by show _ ≤ _; omega, by rw [List.length_set]; exact HLL, hr1.keep hk2 (by rintro _ _ ⟨⟩ e; cases e; exact HN1.out rfl), ⟨hm1.box.keep hk2 (by intro e; cases e; exact HN3.out rfl), hm2⟩, (HLi.out.keep hk1 (by intro e; cases e; exact HN4.out rfl)).keep hk2 (by intro e; cases e; exact HN6.out rfl), (HVi.out.keep hk1 (by intro e; cases e; exact HN5.out rfl)).keep hk2 (by intro e; cases e; exact HN7.out rfl), (HBi.out.setCell (p := ⟨gz, j, none⟩) HGZW.out _).setCell (p := ⟨gb, j, none⟩) HGW.out _⟩
            case measure => simp [intOf]; omega
          · have hk1 := HK1.out
            have hz3 : -9223372036854775808 ≤ (4 : Int) := HMZB.out.1
            have hz4 : (4 : Int) < 9223372036854775808 := HMZB.out.2
            obtain ⟨ok, hok⟩ : ∃ ok, roomB k n (lim65 most) (4 : Int) true = ok := ⟨_, rfl⟩
            obtain ⟨N1, hN1⟩ : ∃ N1, N1 = 65536 * gN ok k (k + n) := ⟨_, rfl⟩
            obtain ⟨l1, hl1⟩ : ∃ l1, l1 = gX ok l (List.replicate (65536 * n) 0) := ⟨_, rfl⟩
            obtain ⟨E, hE⟩ : ∃ E, E = gE ok k := ⟨_, rfl⟩
            have PR : Hid (Calls Try.prog 18 #[.slice (some ⟨gz, 0, none⟩) M M, .agg #[.int .i64 mn, .int .i64 (4 : Int), .bool true], .int .u64 n, .int .i64 most] wr fun e w' => ∃ p' c', e = .returned (.tuple #[.slice p' N1 c', .int .i64 E]) ∧ Sl 1 p' N1 c' (Lib.byteCells l1) w' ∧ Below wr.heap.size wr w' ∧ NB wr (some ⟨gz, 0, none⟩) p') := by
              have h := rgrow_b (some ⟨gz, 0, none⟩) k M n most mn (4 : Int) true (Lib.byteCells l) wr (HMK.out ▸ HR.out.sl) (by omega) hn h1 h2 hz3 hz4 ok hok
              rw [gX_bytes, ← hN1, ← hl1, ← hE, ← HMK.out] at h
              exact h
            have PGR : ∀ W, MemA w.heap.size gm mn (4 : Int) true (some ⟨gb, 0, none⟩) M M (Lib.byteCells l) W → w.heap.size ≤ W.heap.size → Hid (Calls Try.prog 17 #[.pointer (some ⟨gm, 0, none⟩), .int .u64 n, .int .i64 most] W fun e w' => ∃ p' c', e = .returned (.int .i64 E) ∧ MemA w.heap.size gm mn (4 : Int) true p' N1 c' (Lib.byteCells l1) w' ∧ KP (some gm) W w' ∧ NB W (some ⟨gb, 0, none⟩) p') := by
              intro W hm hB
              have h := grow_b w.heap.size gm mn (4 : Int) true (some ⟨gb, 0, none⟩) k M n most (Lib.byteCells l) W (HMK.out ▸ hm) hB (by omega) hn h1 h2 hz3 hz4 ok hok
              rw [gX_bytes, ← hN1, ← hl1, ← hE] at h
              exact h
            have HG1 : Hid (gm ≠ w.heap.size) := HMM.out.box.ne HLi.out (by decide)
            have HG2 : Hid (gm ≠ w.heap.size + 1) := HMM.out.box.ne HVi.out (by decide)
            have HG3 : Hid (blk (some ⟨gz, 0, none⟩) ≠ some gm) := HR.out.typ HMM.out.box (by decide)
            have l0 := HLi.out.at (k := 0) (v := .int .i64 mn) rfl
            have l1' := HLi.out.at (k := 1) (v := .int .i64 (4 : Int)) rfl
            have l2 := HLi.out.at (k := 2) (v := .bool true) rfl
            obtain ⟨ok2, hok2⟩ : ∃ ok2, roomB k n 10000 (4 : Int) true = ok2 := ⟨_, rfl⟩
            obtain ⟨N2, hN2⟩ : ∃ N2, N2 = gN ok2 k (k + n) := ⟨_, rfl⟩
            obtain ⟨lk, hlk⟩ : ∃ lk, lk = List.replicate k (⟨5, 0, 0, false⟩ : V4) := ⟨_, rfl⟩
            obtain ⟨t2, ht2⟩ : ∃ t2, t2 = gX ok2 lk (List.replicate n (⟨x0, x1, x2, x3⟩ : V4)) := ⟨_, rfl⟩
            obtain ⟨E2, hE2⟩ : ∃ E2, E2 = gE ok2 k := ⟨_, rfl⟩
            have PREP : ∀ W : World, Hid (Calls Try.prog 22 #[.agg #[.int .i64 5, .int .u64 0, .int .u64 0, .bool false], .int .u64 k] W fun e w' => ∃ p' c', e = .returned (.slice p' k c') ∧ Row W.heap.size 32 4 p' k c' (cellsV lk) w' ∧ Below W.heap.size W w') := fun W => by
              have h := rep_says 5 0 0 false k (by omega) W
              have hc : cellsV lk = repC [.int .i64 5, .int .u64 0, .int .u64 0, .bool false] k := by rw [hlk]; exact cellsV_rep ⟨5, 0, 0, false⟩ k
              rw [hc]
              exact h
            have PRT : ∀ p c W, Sl 4 p k c (cellsV lk) W → Hid (Calls Try.prog 27 #[.slice p k c, .agg #[.int .i64 mn, .int .i64 (4 : Int), .bool true], .int .u64 n, .agg #[.int .i64 x0, .int .u64 x1, .int .u64 x2, .bool x3]] W fun e w' => ∃ p' c', e = .returned (.tuple #[.slice p' N2 c', .int .i64 E2]) ∧ Sl 4 p' N2 c' (cellsV t2) w' ∧ Below W.heap.size W w' ∧ NB W p p') := fun p c W hs => by
              have h := rgrow_v p k c n mn (4 : Int) true x0 x1 x2 x3 (cellsV lk) W hs (by omega) hn hz3 hz4 ok2 hok2
              rw [show ([.int .i64 x0, .int .u64 x1, .int .u64 x2, .bool x3] : List Value) = (⟨x0, x1, x2, x3⟩ : V4).cs from rfl, gX_vals, ← hN2, ← ht2, ← hE2] at h
              exact h
            have PGT : ∀ p c gt W, TabA w.heap.size gt 0 mn (4 : Int) true p k c (cellsV lk) W → w.heap.size ≤ W.heap.size → Hid (Calls Try.prog 26 #[.pointer (some ⟨gt, 0, none⟩), .int .u64 n, .agg #[.int .i64 x0, .int .u64 x1, .int .u64 x2, .bool x3]] W fun e w' => ∃ p' c', e = .returned (.int .i64 E2) ∧ TabA w.heap.size gt 0 mn (4 : Int) true p' N2 c' (cellsV t2) w' ∧ KP (some gt) W w' ∧ NB W p p') := fun p c gt W ht hB => by
              have h := grow_v w.heap.size gt 0 mn (4 : Int) true p k c n x0 x1 x2 x3 (cellsV lk) W hB ht (by omega) hn hz3 hz4 ok2 hok2
              rw [show ([.int .i64 x0, .int .u64 x1, .int .u64 x2, .bool x3] : List Value) = (⟨x0, x1, x2, x3⟩ : V4).cs from rfl, gX_vals, ← hN2, ← ht2, ← hE2] at h
              exact h
            have HWK : Hid (IntKind.u64.wrap (k : Int) = k) := by
              show _ = _
              rw [IntKind.wrap_u64]; omega
            have HSZK := hid hk1
            clear hz3 hz4 hok hN1 hl1 hE hok2 hN2 hlk ht2 hE2 hk1
            go_upto_region 14 with fail
            clear hlt hj62 hM62
            go_upto_region 15 with (go_at_call 18; (with_reducible refine PR.out.mono ?_); rintro e wA ⟨pA, cA, rfl, hsA, hbA, hnA⟩; have HSA := hid hsA; have HMA := hid (HMM.out.below hbA); have HLA := hid (HLi.out.below hbA HLi.out.lt); have HVA := hid (HVi.out.below hbA HVi.out.lt); have HBA := hid (HBi.out.trans (hbA.mono HBi.out.size)); have HNA : Hid (blk pA ≠ some gm) := (hnA gm HMM.out.box.lt HG3.out); clear hsA hbA hnA PR)
            clear HR HMM HLi HVi HBi l0 l1' l2
            go_upto_region 16 with (go_at_call 17; (with_reducible refine (PGR wA HMA.out HBA.out.size).out.mono ?_); rintro e wB ⟨pB, cB, rfl, hmB, hkB, hnB⟩; have HMB := hid hmB; have HSB := hid (HSA.out.keep hkB (by rintro g o rfl e; cases e; exact HNA.out rfl)); have HLB := hid (HLA.out.keep hkB (by intro e; cases e; exact HG1.out rfl)); have HVB := hid (HVA.out.keep hkB (by intro e; cases e; exact HG2.out rfl)); have HBB := hid (HBA.out.trans (hkB.below HBA.out.size (by rintro _ ⟨⟩; exact HGM.out))); clear hmB hkB hnB PGR)
            clear HSA HMA HLA HVA HBA
            have hS : CA w.heap.size #[.int .i64 mn, .int .i64 (4 : Int), .bool true] 23 wB.drew ∧ CA (w.heap.size + 1) #[.int .i64 x0, .int .u64 x1, .int .u64 x2, .bool x3] 32 wB.drew ∧ Below w.heap.size w wB.drew := ⟨HLB.out, HVB.out, ⟨HBB.out.os, HBB.out.tape, HBB.out.output, HBB.out.size, HBB.out.block⟩⟩
            have HMB2 : Hid (MemA w.heap.size gm mn (4 : Int) true pB N1 cB (Lib.byteCells l1) wB.drew) := ⟨HMB.out.box, HMB.out.row.drew⟩
            have HSB2 : Hid (Sl 1 pA N1 cA (Lib.byteCells l1) wB.drew) := ⟨HSB.out.src.drew, HSB.out.cap, HSB.out.big, HSB.out.nil⟩
            refine wp_region_held_drew (S := fun W => CA w.heap.size #[.int .i64 mn, .int .i64 (4 : Int), .bool true] 23 W ∧ CA (w.heap.size + 1) #[.int .i64 x0, .int .u64 x1, .int .u64 x2, .bool x3] 32 W ∧ Below w.heap.size w W) (by kernel_rfl) hS (fun _ => ?_)
            clear HLB HVB HBB HMB HSB
            generalize wB.drew = W at *
            refine wpAnyH_take (oi := ⟨_, _, _, _, _, _⟩) (i := 0) (v := .agg #[.int .i64 mn, .int .i64 (4 : Int), .bool true]) rfl (by kernel_rfl) (by kernel_rfl) (by kernel_rfl) (fun _ _ _ h => h) (Or.inl ⟨by rfl, ?_⟩) (by assumption) ?_
            · (intro W hSw; (have l0 := hSw.1.at (k := 0) rfl); (have l1 := hSw.1.at (k := 1) rfl); (have l2 := hSw.1.at (k := 2) rfl); (have v0 := hSw.2.1.at (k := 0) rfl); (have v1 := hSw.2.1.at (k := 1) rfl); (have v2 := hSw.2.1.at (k := 2) rfl); (have v3 := hSw.2.1.at (k := 3) rfl); clear hSw; (have wk := HWK.out); go_simp; try (exact wrap_b8 _); try (with_reducible rfl))
            try simp only [Act.put, List.setIfInBounds_toArray, List.set_cons_zero, List.set_cons_succ]
            refine wpAnyH_take (oi := ⟨_, _, _, _, _, _⟩) (i := 1) (v := .agg #[.int .i64 0, .int .i64 mn, .int .i64 (4 : Int), .bool true]) rfl (by kernel_rfl) (by kernel_rfl) (by kernel_rfl) (fun _ _ _ h => h) (Or.inl ⟨by rfl, ?_⟩) (by assumption) ?_
            · (intro W hSw; (have l0 := hSw.1.at (k := 0) rfl); (have l1 := hSw.1.at (k := 1) rfl); (have l2 := hSw.1.at (k := 2) rfl); (have v0 := hSw.2.1.at (k := 0) rfl); (have v1 := hSw.2.1.at (k := 1) rfl); (have v2 := hSw.2.1.at (k := 2) rfl); (have v3 := hSw.2.1.at (k := 3) rfl); clear hSw; (have wk := HWK.out); go_simp; try (exact wrap_b8 _); try (with_reducible rfl))
            try simp only [Act.put, List.setIfInBounds_toArray, List.set_cons_zero, List.set_cons_succ]
            refine wpAnyH_take (oi := ⟨_, _, _, _, _, _⟩) (i := 2) (v := .agg #[.int .i64 5, .int .u64 0, .int .u64 0, .bool false]) rfl (by kernel_rfl) (by kernel_rfl) (by kernel_rfl) (fun _ _ _ h => h) (Or.inl ⟨by rfl, ?_⟩) (by assumption) ?_
            · (intro W hSw; (have l0 := hSw.1.at (k := 0) rfl); (have l1 := hSw.1.at (k := 1) rfl); (have l2 := hSw.1.at (k := 2) rfl); (have v0 := hSw.2.1.at (k := 0) rfl); (have v1 := hSw.2.1.at (k := 1) rfl); (have v2 := hSw.2.1.at (k := 2) rfl); (have v3 := hSw.2.1.at (k := 3) rfl); clear hSw; (have wk := HWK.out); go_simp; try (exact wrap_b8 _); try (with_reducible rfl))
            try simp only [Act.put, List.setIfInBounds_toArray, List.set_cons_zero, List.set_cons_succ]
            refine wpAnyH_take (oi := ⟨_, _, _, _, _, _⟩) (i := 3) (v := .int .i64 k) rfl (by kernel_rfl) (by kernel_rfl) (by kernel_rfl) (fun _ _ _ h => h) (Or.inl ⟨by rfl, ?_⟩) (by assumption) ?_
            · (intro W hSw; (have l0 := hSw.1.at (k := 0) rfl); (have l1 := hSw.1.at (k := 1) rfl); (have l2 := hSw.1.at (k := 2) rfl); (have v0 := hSw.2.1.at (k := 0) rfl); (have v1 := hSw.2.1.at (k := 1) rfl); (have v2 := hSw.2.1.at (k := 2) rfl); (have v3 := hSw.2.1.at (k := 3) rfl); clear hSw; (have wk := HWK.out); go_simp; try (exact wrap_b8 _); try (with_reducible rfl))
            try simp only [Act.put, List.setIfInBounds_toArray, List.set_cons_zero, List.set_cons_succ]
            refine wpAnyH_take (oi := ⟨_, _, _, _, _, _⟩) (i := 4) (v := .int .u64 k) rfl (by kernel_rfl) (by kernel_rfl) (by kernel_rfl) (fun _ _ _ h => h) (Or.inl ⟨by rfl, ?_⟩) (by assumption) ?_
            · (intro W hSw; (have l0 := hSw.1.at (k := 0) rfl); (have l1 := hSw.1.at (k := 1) rfl); (have l2 := hSw.1.at (k := 2) rfl); (have v0 := hSw.2.1.at (k := 0) rfl); (have v1 := hSw.2.1.at (k := 1) rfl); (have v2 := hSw.2.1.at (k := 2) rfl); (have v3 := hSw.2.1.at (k := 3) rfl); clear hSw; (have wk := HWK.out); go_simp; try (exact wrap_b8 _); try (with_reducible rfl))
            try simp only [Act.put, List.setIfInBounds_toArray, List.set_cons_zero, List.set_cons_succ]
            refine wpAnyH_ready (rs := [5]) (by kernel_rfl) (by simp) ?_
            refine AllReadyH.cons (o := ⟨_, _, _, _, _, _⟩) rfl (fun K hK => ?_) ?_
            · go_simp
              go_at_call 22
              (with_reducible refine (PREP _).out.mono ?_)
              rintro e W1 ⟨pT, cT, rfl, hrT, hb⟩
              have HRT : Hid (Row w.heap.size 32 4 pT k cT (cellsV lk) W1) := hrT.mono hS.2.2.size
              replace hS := And.intro (hS.1.below hb hS.1.lt) (And.intro (hS.2.1.below hb hS.2.1.lt) (hS.2.2.trans (hb.mono hS.2.2.size)))
              replace HMB2 := hid (HMB2.out.below hb)
              replace HSB2 := hid (HSB2.out.below hb)
              clear hrT hb
              refine hK.out _ _ hS (fun _ => ?_)
              clear hK K
              try simp only [Act.put, List.setIfInBounds_toArray, List.set_cons_zero, List.set_cons_succ]
              refine wpAnyH_take (oi := ⟨_, _, _, _, _, _⟩) (i := 6) (v := .agg #[.int .i64 0, .int .i64 mn, .int .i64 (4 : Int), .bool true, .slice pT k cT]) rfl (by kernel_rfl) (by kernel_rfl) (by kernel_rfl) (fun _ _ _ h => h) (Or.inl ⟨by rfl, ?_⟩) (by assumption) ?_
              · (intro W hSw; (have l0 := hSw.1.at (k := 0) rfl); (have l1 := hSw.1.at (k := 1) rfl); (have l2 := hSw.1.at (k := 2) rfl); (have v0 := hSw.2.1.at (k := 0) rfl); (have v1 := hSw.2.1.at (k := 1) rfl); (have v2 := hSw.2.1.at (k := 2) rfl); (have v3 := hSw.2.1.at (k := 3) rfl); clear hSw; (have wk := HWK.out); go_simp; try (exact wrap_b8 _); try (with_reducible rfl))
              try simp only [Act.put, List.setIfInBounds_toArray, List.set_cons_zero, List.set_cons_succ]
              refine wpAnyH_ready (rs := [7]) (by kernel_rfl) (by simp) ?_
              refine AllReadyH.cons (o := ⟨_, _, _, _, _, _⟩) rfl (fun K hK => ?_) ?_
              · go_simp
                have hb := (Below.refl W1.heap.size W1).alloc (Nat.le_refl _) (.cells #[.int .i64 0, .int .i64 mn, .int .i64 (4 : Int), .bool true, .slice pT k cT] 54)
                have HTT : Hid (TabA w.heap.size W1.heap.size 0 mn (4 : Int) true pT k cT (cellsV lk) (W1.alloc (.cells #[.int .i64 0, .int .i64 mn, .int .i64 (4 : Int), .bool true, .slice pT k cT] 54))) := ⟨CA.new _ _ _, HRT.out.below hb⟩
                have HGT : Hid (w.heap.size ≤ W1.heap.size) := hS.2.2.size
                have HGTM : Hid (gm < W1.heap.size) := HMB2.out.box.lt
                have HGTV : Hid (w.heap.size + 1 < W1.heap.size) := hS.2.1.lt
                have HGTS : Hid (blk pA ≠ some W1.heap.size ∨ N1 = 0) := Sl.old HSB2.out (by decide)
                have HGTB : Hid (blk pB ≠ some W1.heap.size) := HMB2.out.row.old
                replace hS := And.intro (hS.1.below hb hS.1.lt) (And.intro (hS.2.1.below hb hS.2.1.lt) (hS.2.2.trans (hb.mono hS.2.2.size)))
                replace HMB2 := hid (HMB2.out.below hb)
                replace HSB2 := hid (HSB2.out.below hb)
                clear hb HRT
                generalize W1.alloc (.cells #[.int .i64 0, .int .i64 mn, .int .i64 (4 : Int), .bool true, .slice pT k cT] 54) = W2 at *
                generalize W1.heap.size = gt at *
                refine hK.out _ _ hS (fun _ => ?_)
                clear hK K
                try simp only [Act.put, List.setIfInBounds_toArray, List.set_cons_zero, List.set_cons_succ]
                refine wpAnyH_take (oi := ⟨_, _, _, _, _, _⟩) (i := 8) (v := .pointer (some ⟨gt, 0, none⟩)) rfl (by kernel_rfl) (by kernel_rfl) (by kernel_rfl) (fun _ _ _ h => h) (Or.inl ⟨by rfl, ?_⟩) (by assumption) ?_
                · (intro W hSw; (have l0 := hSw.1.at (k := 0) rfl); (have l1 := hSw.1.at (k := 1) rfl); (have l2 := hSw.1.at (k := 2) rfl); (have v0 := hSw.2.1.at (k := 0) rfl); (have v1 := hSw.2.1.at (k := 1) rfl); (have v2 := hSw.2.1.at (k := 2) rfl); (have v3 := hSw.2.1.at (k := 3) rfl); clear hSw; (have wk := HWK.out); go_simp; try (exact wrap_b8 _); try (with_reducible rfl))
                try simp only [Act.put, List.setIfInBounds_toArray, List.set_cons_zero, List.set_cons_succ]
                refine wpAnyH_done (by kernel_rfl) ?_ _
                have HF := hid hS
                clear hS
                go_upto_region 17 with fail
                have hS17 : CA w.heap.size #[.int .i64 mn, .int .i64 (4 : Int), .bool true] 23 W2.drew ∧ CA (w.heap.size + 1) #[.int .i64 x0, .int .u64 x1, .int .u64 x2, .bool x3] 32 W2.drew ∧ Below w.heap.size w W2.drew := ⟨HF.out.1, HF.out.2.1, ⟨HF.out.2.2.os, HF.out.2.2.tape, HF.out.2.2.output, HF.out.2.2.size, HF.out.2.2.block⟩⟩
                have HMB3 : Hid (MemA w.heap.size gm mn (4 : Int) true pB N1 cB (Lib.byteCells l1) W2.drew) := ⟨HMB2.out.box, HMB2.out.row.drew⟩
                have HSB3 : Hid (Sl 1 pA N1 cA (Lib.byteCells l1) W2.drew) := ⟨HSB2.out.src.drew, HSB2.out.cap, HSB2.out.big, HSB2.out.nil⟩
                have HTT3 : Hid (TabA w.heap.size gt 0 mn (4 : Int) true pT k cT (cellsV lk) W2.drew) := ⟨HTT.out.box, HTT.out.row.drew⟩
                refine wp_region_held_drew (S := fun W => CA w.heap.size #[.int .i64 mn, .int .i64 (4 : Int), .bool true] 23 W ∧ CA (w.heap.size + 1) #[.int .i64 x0, .int .u64 x1, .int .u64 x2, .bool x3] 32 W ∧ Below w.heap.size w W) (by kernel_rfl) hS17 (fun _ => ?_)
                have hS := hS17
                clear HF HMB2 HSB2 HTT hS17
                generalize W2.drew = W at *
                refine wpAnyH_take (oi := ⟨_, _, _, _, _, _⟩) (i := 0) (v := .agg #[.int .i64 5, .int .u64 0, .int .u64 0, .bool false]) rfl (by kernel_rfl) (by kernel_rfl) (by kernel_rfl) (fun _ _ _ h => h) (Or.inl ⟨by rfl, ?_⟩) (by assumption) ?_
                · (intro W hSw; (have l0 := hSw.1.at (k := 0) rfl); (have l1 := hSw.1.at (k := 1) rfl); (have l2 := hSw.1.at (k := 2) rfl); (have v0 := hSw.2.1.at (k := 0) rfl); (have v1 := hSw.2.1.at (k := 1) rfl); (have v2 := hSw.2.1.at (k := 2) rfl); (have v3 := hSw.2.1.at (k := 3) rfl); clear hSw; (have wk := HWK.out); go_simp; try (exact wrap_b8 _); try (with_reducible rfl))
                try simp only [Act.put, List.setIfInBounds_toArray, List.set_cons_zero, List.set_cons_succ]
                refine wpAnyH_take (oi := ⟨_, _, _, _, _, _⟩) (i := 1) (v := .int .i64 k) rfl (by kernel_rfl) (by kernel_rfl) (by kernel_rfl) (fun _ _ _ h => h) (Or.inl ⟨by rfl, ?_⟩) (by assumption) ?_
                · (intro W hSw; (have l0 := hSw.1.at (k := 0) rfl); (have l1 := hSw.1.at (k := 1) rfl); (have l2 := hSw.1.at (k := 2) rfl); (have v0 := hSw.2.1.at (k := 0) rfl); (have v1 := hSw.2.1.at (k := 1) rfl); (have v2 := hSw.2.1.at (k := 2) rfl); (have v3 := hSw.2.1.at (k := 3) rfl); clear hSw; (have wk := HWK.out); go_simp; try (exact wrap_b8 _); try (with_reducible rfl))
                try simp only [Act.put, List.setIfInBounds_toArray, List.set_cons_zero, List.set_cons_succ]
                refine wpAnyH_take (oi := ⟨_, _, _, _, _, _⟩) (i := 2) (v := .int .u64 k) rfl (by kernel_rfl) (by kernel_rfl) (by kernel_rfl) (fun _ _ _ h => h) (Or.inl ⟨by rfl, ?_⟩) (by assumption) ?_
                · (intro W hSw; (have l0 := hSw.1.at (k := 0) rfl); (have l1 := hSw.1.at (k := 1) rfl); (have l2 := hSw.1.at (k := 2) rfl); (have v0 := hSw.2.1.at (k := 0) rfl); (have v1 := hSw.2.1.at (k := 1) rfl); (have v2 := hSw.2.1.at (k := 2) rfl); (have v3 := hSw.2.1.at (k := 3) rfl); clear hSw; (have wk := HWK.out); go_simp; try (exact wrap_b8 _); try (with_reducible rfl))
                try simp only [Act.put, List.setIfInBounds_toArray, List.set_cons_zero, List.set_cons_succ]
                refine wpAnyH_take (oi := ⟨_, _, _, _, _, _⟩) (i := 4) (v := .agg #[.int .i64 mn, .int .i64 (4 : Int), .bool true]) rfl (by kernel_rfl) (by kernel_rfl) (by kernel_rfl) (fun _ _ _ h => h) (Or.inl ⟨by rfl, ?_⟩) (by assumption) ?_
                · (intro W hSw; (have l0 := hSw.1.at (k := 0) rfl); (have l1 := hSw.1.at (k := 1) rfl); (have l2 := hSw.1.at (k := 2) rfl); (have v0 := hSw.2.1.at (k := 0) rfl); (have v1 := hSw.2.1.at (k := 1) rfl); (have v2 := hSw.2.1.at (k := 2) rfl); (have v3 := hSw.2.1.at (k := 3) rfl); clear hSw; (have wk := HWK.out); go_simp; try (exact wrap_b8 _); try (with_reducible rfl))
                try simp only [Act.put, List.setIfInBounds_toArray, List.set_cons_zero, List.set_cons_succ]
                refine wpAnyH_take (oi := ⟨_, _, _, _, _, _⟩) (i := 5) (v := .int .u64 n) rfl (by kernel_rfl) (by kernel_rfl) (by kernel_rfl) (fun _ _ _ h => h) (Or.inl ⟨by rfl, ?_⟩) (by assumption) ?_
                · (intro W hSw; (have l0 := hSw.1.at (k := 0) rfl); (have l1 := hSw.1.at (k := 1) rfl); (have l2 := hSw.1.at (k := 2) rfl); (have v0 := hSw.2.1.at (k := 0) rfl); (have v1 := hSw.2.1.at (k := 1) rfl); (have v2 := hSw.2.1.at (k := 2) rfl); (have v3 := hSw.2.1.at (k := 3) rfl); clear hSw; (have wk := HWK.out); go_simp; try (exact wrap_b8 _); try (with_reducible rfl))
                try simp only [Act.put, List.setIfInBounds_toArray, List.set_cons_zero, List.set_cons_succ]
                refine wpAnyH_take (oi := ⟨_, _, _, _, _, _⟩) (i := 6) (v := .agg #[.int .i64 x0, .int .u64 x1, .int .u64 x2, .bool x3]) rfl (by kernel_rfl) (by kernel_rfl) (by kernel_rfl) (fun _ _ _ h => h) (Or.inl ⟨by rfl, ?_⟩) (by assumption) ?_
                · (intro W hSw; (have l0 := hSw.1.at (k := 0) rfl); (have l1 := hSw.1.at (k := 1) rfl); (have l2 := hSw.1.at (k := 2) rfl); (have v0 := hSw.2.1.at (k := 0) rfl); (have v1 := hSw.2.1.at (k := 1) rfl); (have v2 := hSw.2.1.at (k := 2) rfl); (have v3 := hSw.2.1.at (k := 3) rfl); clear hSw; (have wk := HWK.out); go_simp; try (exact wrap_b8 _); try (with_reducible rfl))
                try simp only [Act.put, List.setIfInBounds_toArray, List.set_cons_zero, List.set_cons_succ]
                refine wpAnyH_ready (rs := [3]) (by kernel_rfl) (by simp) ?_
                refine AllReadyH.cons (o := ⟨_, _, _, _, _, _⟩) rfl (fun K hK => ?_) ?_
                · go_simp
                  go_at_call 22
                  (with_reducible refine (PREP _).out.mono ?_)
                  rintro e W1 ⟨pU, cU, rfl, hrU, hb⟩
                  have HSU := hid hrU.sl
                  have HNU : Hid (blk pU ≠ some gt) := (by intro e; have h5 := hrU.blk_ge gt e; have h6 := HTT3.out.box.lt; omega)
                  replace hS := And.intro (hS.1.below hb hS.1.lt) (And.intro (hS.2.1.below hb hS.2.1.lt) (hS.2.2.trans (hb.mono hS.2.2.size)))
                  replace HMB3 := hid (HMB3.out.below hb)
                  replace HSB3 := hid (HSB3.out.below hb)
                  replace HTT3 := hid (HTT3.out.below hb)
                  clear hrU hb
                  refine hK.out _ _ hS (fun _ => ?_)
                  clear hK K
                  try simp only [Act.put, List.setIfInBounds_toArray, List.set_cons_zero, List.set_cons_succ]
                  refine wpAnyH_ready (rs := [7]) (by kernel_rfl) (by simp) ?_
                  refine AllReadyH.cons (o := ⟨_, _, _, _, _, _⟩) rfl (fun K hK => ?_) ?_
                  · go_simp
                    go_at_call 27
                    (with_reducible refine (PRT pU cU _ HSU.out).out.mono ?_)
                    rintro e W2 ⟨pV, cV, rfl, hsV, hb, hnV⟩
                    have HSV := hid hsV
                    have HNV : Hid (blk pV ≠ some gt) := hnV gt HTT3.out.box.lt HNU.out
                    replace hS := And.intro (hS.1.below hb hS.1.lt) (And.intro (hS.2.1.below hb hS.2.1.lt) (hS.2.2.trans (hb.mono hS.2.2.size)))
                    replace HMB3 := hid (HMB3.out.below hb)
                    replace HSB3 := hid (HSB3.out.below hb)
                    replace HTT3 := hid (HTT3.out.below hb)
                    clear hsV hb hnV HSU HNU
                    refine hK.out _ _ hS (fun _ => ?_)
                    clear hK K
                    try simp only [Act.put, List.setIfInBounds_toArray, List.set_cons_zero, List.set_cons_succ]
                    refine wpAnyH_take (oi := ⟨_, _, _, _, _, _⟩) (i := 8) (v := .tuple #[.slice pV N2 cV, .int .i64 E2]) rfl (by kernel_rfl) (by kernel_rfl) (by kernel_rfl) (fun _ _ _ h => h) (Or.inl ⟨by rfl, ?_⟩) (by assumption) ?_
                    · (intro W hSw; (have l0 := hSw.1.at (k := 0) rfl); (have l1 := hSw.1.at (k := 1) rfl); (have l2 := hSw.1.at (k := 2) rfl); (have v0 := hSw.2.1.at (k := 0) rfl); (have v1 := hSw.2.1.at (k := 1) rfl); (have v2 := hSw.2.1.at (k := 2) rfl); (have v3 := hSw.2.1.at (k := 3) rfl); clear hSw; (have wk := HWK.out); go_simp; try (exact wrap_b8 _); try (with_reducible rfl))
                    try simp only [Act.put, List.setIfInBounds_toArray, List.set_cons_zero, List.set_cons_succ]
                    refine wpAnyH_take (oi := ⟨_, _, _, _, _, _⟩) (i := 9) (v := .slice pV N2 cV) rfl (by kernel_rfl) (by kernel_rfl) (by kernel_rfl) (fun _ _ _ h => h) (Or.inl ⟨by rfl, ?_⟩) (by assumption) ?_
                    · (intro W hSw; (have l0 := hSw.1.at (k := 0) rfl); (have l1 := hSw.1.at (k := 1) rfl); (have l2 := hSw.1.at (k := 2) rfl); (have v0 := hSw.2.1.at (k := 0) rfl); (have v1 := hSw.2.1.at (k := 1) rfl); (have v2 := hSw.2.1.at (k := 2) rfl); (have v3 := hSw.2.1.at (k := 3) rfl); clear hSw; (have wk := HWK.out); go_simp; try (exact wrap_b8 _); try (with_reducible rfl))
                    try simp only [Act.put, List.setIfInBounds_toArray, List.set_cons_zero, List.set_cons_succ]
                    refine wpAnyH_take (oi := ⟨_, _, _, _, _, _⟩) (i := 10) (v := .int .i64 E2) rfl (by kernel_rfl) (by kernel_rfl) (by kernel_rfl) (fun _ _ _ h => h) (Or.inl ⟨by rfl, ?_⟩) (by assumption) ?_
                    · (intro W hSw; (have l0 := hSw.1.at (k := 0) rfl); (have l1 := hSw.1.at (k := 1) rfl); (have l2 := hSw.1.at (k := 2) rfl); (have v0 := hSw.2.1.at (k := 0) rfl); (have v1 := hSw.2.1.at (k := 1) rfl); (have v2 := hSw.2.1.at (k := 2) rfl); (have v3 := hSw.2.1.at (k := 3) rfl); clear hSw; (have wk := HWK.out); go_simp; try (exact wrap_b8 _); try (with_reducible rfl))
                    try simp only [Act.put, List.setIfInBounds_toArray, List.set_cons_zero, List.set_cons_succ]
                    refine wpAnyH_take (oi := ⟨_, _, _, _, _, _⟩) (i := 11) (v := .slice pV N2 cV) rfl (by kernel_rfl) (by kernel_rfl) (by kernel_rfl) (fun _ _ _ h => h) (Or.inl ⟨by rfl, ?_⟩) (by assumption) ?_
                    · (intro W hSw; (have l0 := hSw.1.at (k := 0) rfl); (have l1 := hSw.1.at (k := 1) rfl); (have l2 := hSw.1.at (k := 2) rfl); (have v0 := hSw.2.1.at (k := 0) rfl); (have v1 := hSw.2.1.at (k := 1) rfl); (have v2 := hSw.2.1.at (k := 2) rfl); (have v3 := hSw.2.1.at (k := 3) rfl); clear hSw; (have wk := HWK.out); go_simp; try (exact wrap_b8 _); try (with_reducible rfl))
                    try simp only [Act.put, List.setIfInBounds_toArray, List.set_cons_zero, List.set_cons_succ]
                    refine wpAnyH_take (oi := ⟨_, _, _, _, _, _⟩) (i := 12) (v := .int .i64 E2) rfl (by kernel_rfl) (by kernel_rfl) (by kernel_rfl) (fun _ _ _ h => h) (Or.inl ⟨by rfl, ?_⟩) (by assumption) ?_
                    · (intro W hSw; (have l0 := hSw.1.at (k := 0) rfl); (have l1 := hSw.1.at (k := 1) rfl); (have l2 := hSw.1.at (k := 2) rfl); (have v0 := hSw.2.1.at (k := 0) rfl); (have v1 := hSw.2.1.at (k := 1) rfl); (have v2 := hSw.2.1.at (k := 2) rfl); (have v3 := hSw.2.1.at (k := 3) rfl); clear hSw; (have wk := HWK.out); go_simp; try (exact wrap_b8 _); try (with_reducible rfl))
                    try simp only [Act.put, List.setIfInBounds_toArray, List.set_cons_zero, List.set_cons_succ]
                    refine wpAnyH_done (by kernel_rfl) ?_ _
                    have HF17 := hid hS
                    clear hS
                    have v0 := HF17.out.2.1.at (k := 0) (v := .int .i64 x0) rfl
                    have v1 := HF17.out.2.1.at (k := 1) (v := .int .u64 x1) rfl
                    have v2 := HF17.out.2.1.at (k := 2) (v := .int .u64 x2) rfl
                    have v3 := HF17.out.2.1.at (k := 3) (v := .bool x3) rfl
                    go_upto_region 19 with (go_at_call 26; (with_reducible refine (PGT pT cT gt W2 HTT3.out HF17.out.2.2.size).out.mono ?_); rintro e wX ⟨pX, cX, rfl, htX, hkX, hnX⟩; have HTX := hid htX; have HMX : Hid (MemA w.heap.size gm mn (4 : Int) true pB N1 cB (Lib.byteCells l1) wX) := ⟨HMB3.out.box.keep hkX (by intro e; cases e; have := HGTM.out; omega), HMB3.out.row.keep hkX (by rintro g o rfl e; cases e; exact HGTB.out rfl)⟩; have HSX := hid (HSB3.out.keepO hkX HGTS.out); have HVX := hid (HSV.out.keepO hkX (.inl HNV.out)); have HBX := hid (HF17.out.2.2.trans (hkX.below HF17.out.2.2.size (by rintro _ ⟨⟩; exact HGT.out))); clear htX hkX hnX)
                    have hS19 : Below w.heap.size w wX.drew ∧ MemA w.heap.size gm mn (4 : Int) true pB N1 cB (Lib.byteCells l1) wX.drew ∧ Sl 1 pA N1 cA (Lib.byteCells l1) wX.drew ∧ TabA w.heap.size gt 0 mn (4 : Int) true pX N2 cX (cellsV t2) wX.drew ∧ Sl 4 pV N2 cV (cellsV t2) wX.drew := ⟨⟨HBX.out.os, HBX.out.tape, HBX.out.output, HBX.out.size, HBX.out.block⟩, ⟨HMX.out.box, HMX.out.row.drew⟩, ⟨HSX.out.src.drew, HSX.out.cap, HSX.out.big, HSX.out.nil⟩, ⟨HTX.out.box, HTX.out.row.drew⟩, ⟨HVX.out.src.drew, HVX.out.cap, HVX.out.big, HVX.out.nil⟩⟩
                    refine wp_region_held_drew (S := fun W => Below w.heap.size w W ∧ MemA w.heap.size gm mn (4 : Int) true pB N1 cB (Lib.byteCells l1) W ∧ Sl 1 pA N1 cA (Lib.byteCells l1) W ∧ TabA w.heap.size gt 0 mn (4 : Int) true pX N2 cX (cellsV t2) W ∧ Sl 4 pV N2 cV (cellsV t2) W) (by kernel_rfl) hS19 (fun _ => ?_)
                    clear HF17 HMB3 HSB3 HTT3 HTX HMX HSX HVX HBX v0 v1 v2 v3
                    have hS := hS19
                    clear hS19
                    generalize wX.drew = W at *
                    refine wpAnyH_take (oi := ⟨_, _, _, _, _, _⟩) (i := 0) (v := .int .i64 E) rfl (by kernel_rfl) (by kernel_rfl) (by kernel_rfl) (fun _ _ _ h => h) (Or.inl ⟨by rfl, ?_⟩) (by assumption) ?_
                    · (intro W hSw; (have y3 := hSw.2.1.box.at (k := 3) rfl); (have y4 := hSw.2.2.2.1.box.at (k := 4) rfl); (have cv1 := conv_bytes (c := cB) hSw.2.1.row.src); (have cv2 := conv_bytes (c := cA) hSw.2.2.1.src); clear hSw; go_simp; try (exact wrap_b8 _); try (with_reducible rfl))
                    try simp only [Act.put, List.setIfInBounds_toArray, List.set_cons_zero, List.set_cons_succ]
                    refine wpAnyH_take (oi := ⟨_, _, _, _, _, _⟩) (i := 1) (v := .int .i64 E) rfl (by kernel_rfl) (by kernel_rfl) (by kernel_rfl) (fun _ _ _ h => h) (Or.inl ⟨by rfl, ?_⟩) (by assumption) ?_
                    · (intro W hSw; (have y3 := hSw.2.1.box.at (k := 3) rfl); (have y4 := hSw.2.2.2.1.box.at (k := 4) rfl); (have cv1 := conv_bytes (c := cB) hSw.2.1.row.src); (have cv2 := conv_bytes (c := cA) hSw.2.2.1.src); clear hSw; go_simp; try (exact wrap_b8 _); try (with_reducible rfl))
                    try simp only [Act.put, List.setIfInBounds_toArray, List.set_cons_zero, List.set_cons_succ]
                    refine wpAnyH_take (oi := ⟨_, _, _, _, _, _⟩) (i := 2) (v := .bool true) rfl (by kernel_rfl) (by kernel_rfl) (by kernel_rfl) (fun _ _ _ h => h) (Or.inl ⟨by rfl, ?_⟩) (by assumption) ?_
                    · (intro W hSw; (have y3 := hSw.2.1.box.at (k := 3) rfl); (have y4 := hSw.2.2.2.1.box.at (k := 4) rfl); (have cv1 := conv_bytes (c := cB) hSw.2.1.row.src); (have cv2 := conv_bytes (c := cA) hSw.2.2.1.src); clear hSw; go_simp; try (exact wrap_b8 _); try (with_reducible rfl))
                    try simp only [Act.put, List.setIfInBounds_toArray, List.set_cons_zero, List.set_cons_succ]
                    refine wpAnyH_take (oi := ⟨_, _, _, _, _, _⟩) (i := 3) (v := .bool true) rfl (by kernel_rfl) (by kernel_rfl) (by kernel_rfl) (fun _ _ _ h => h) (Or.inl ⟨by rfl, ?_⟩) (by assumption) ?_
                    · (intro W hSw; (have y3 := hSw.2.1.box.at (k := 3) rfl); (have y4 := hSw.2.2.2.1.box.at (k := 4) rfl); (have cv1 := conv_bytes (c := cB) hSw.2.1.row.src); (have cv2 := conv_bytes (c := cA) hSw.2.2.1.src); clear hSw; go_simp; try (exact wrap_b8 _); try (with_reducible rfl))
                    try simp only [Act.put, List.setIfInBounds_toArray, List.set_cons_zero, List.set_cons_succ]
                    refine wpAnyH_take (oi := ⟨_, _, _, _, _, _⟩) (i := 4) (v := .pointer (some ⟨gm, 0, none⟩)) rfl (by kernel_rfl) (by kernel_rfl) (by kernel_rfl) (fun _ _ _ h => h) (Or.inl ⟨by rfl, ?_⟩) (by assumption) ?_
                    · (intro W hSw; (have y3 := hSw.2.1.box.at (k := 3) rfl); (have y4 := hSw.2.2.2.1.box.at (k := 4) rfl); (have cv1 := conv_bytes (c := cB) hSw.2.1.row.src); (have cv2 := conv_bytes (c := cA) hSw.2.2.1.src); clear hSw; go_simp; try (exact wrap_b8 _); try (with_reducible rfl))
                    try simp only [Act.put, List.setIfInBounds_toArray, List.set_cons_zero, List.set_cons_succ]
                    refine wpAnyH_take (oi := ⟨_, _, _, _, _, _⟩) (i := 5) (v := .pointer (some ⟨gm, 0, none⟩)) rfl (by kernel_rfl) (by kernel_rfl) (by kernel_rfl) (fun _ _ _ h => h) (Or.inl ⟨by rfl, ?_⟩) (by assumption) ?_
                    · (intro W hSw; (have y3 := hSw.2.1.box.at (k := 3) rfl); (have y4 := hSw.2.2.2.1.box.at (k := 4) rfl); (have cv1 := conv_bytes (c := cB) hSw.2.1.row.src); (have cv2 := conv_bytes (c := cA) hSw.2.2.1.src); clear hSw; go_simp; try (exact wrap_b8 _); try (with_reducible rfl))
                    try simp only [Act.put, List.setIfInBounds_toArray, List.set_cons_zero, List.set_cons_succ]
                    refine wpAnyH_take (oi := ⟨_, _, _, _, _, _⟩) (i := 6) (v := .pointer (some ⟨gm, 3, none⟩)) rfl (by kernel_rfl) (by kernel_rfl) (by kernel_rfl) (fun _ _ _ h => h) (Or.inl ⟨by rfl, ?_⟩) (by assumption) ?_
                    · (intro W hSw; (have y3 := hSw.2.1.box.at (k := 3) rfl); (have y4 := hSw.2.2.2.1.box.at (k := 4) rfl); (have cv1 := conv_bytes (c := cB) hSw.2.1.row.src); (have cv2 := conv_bytes (c := cA) hSw.2.2.1.src); clear hSw; go_simp; try (exact wrap_b8 _); try (with_reducible rfl))
                    try simp only [Act.put, List.setIfInBounds_toArray, List.set_cons_zero, List.set_cons_succ]
                    refine wpAnyH_take (oi := ⟨_, _, _, _, _, _⟩) (i := 7) (v := .slice pB N1 cB) rfl (by kernel_rfl) (by kernel_rfl) (by kernel_rfl) (fun _ _ _ h => h) (Or.inl ⟨by rfl, ?_⟩) (by assumption) ?_
                    · (intro W hSw; (have y3 := hSw.2.1.box.at (k := 3) rfl); (have y4 := hSw.2.2.2.1.box.at (k := 4) rfl); (have cv1 := conv_bytes (c := cB) hSw.2.1.row.src); (have cv2 := conv_bytes (c := cA) hSw.2.2.1.src); clear hSw; go_simp; try (exact wrap_b8 _); try (with_reducible rfl))
                    try simp only [Act.put, List.setIfInBounds_toArray, List.set_cons_zero, List.set_cons_succ]
                    refine wpAnyH_take (oi := ⟨_, _, _, _, _, _⟩) (i := 8) (v := .string ⟨l1.toArray⟩) rfl (by kernel_rfl) (by kernel_rfl) (by kernel_rfl) (fun _ _ _ h => h) (Or.inl ⟨by rfl, ?_⟩) (by assumption) ?_
                    · (intro W hSw; (have y3 := hSw.2.1.box.at (k := 3) rfl); (have y4 := hSw.2.2.2.1.box.at (k := 4) rfl); (have cv1 := conv_bytes (c := cB) hSw.2.1.row.src); (have cv2 := conv_bytes (c := cA) hSw.2.2.1.src); clear hSw; go_simp; try (exact wrap_b8 _); try (with_reducible rfl))
                    try simp only [Act.put, List.setIfInBounds_toArray, List.set_cons_zero, List.set_cons_succ]
                    refine wpAnyH_take (oi := ⟨_, _, _, _, _, _⟩) (i := 9) (v := .slice pA N1 cA) rfl (by kernel_rfl) (by kernel_rfl) (by kernel_rfl) (fun _ _ _ h => h) (Or.inl ⟨by rfl, ?_⟩) (by assumption) ?_
                    · (intro W hSw; (have y3 := hSw.2.1.box.at (k := 3) rfl); (have y4 := hSw.2.2.2.1.box.at (k := 4) rfl); (have cv1 := conv_bytes (c := cB) hSw.2.1.row.src); (have cv2 := conv_bytes (c := cA) hSw.2.2.1.src); clear hSw; go_simp; try (exact wrap_b8 _); try (with_reducible rfl))
                    try simp only [Act.put, List.setIfInBounds_toArray, List.set_cons_zero, List.set_cons_succ]
                    refine wpAnyH_take (oi := ⟨_, _, _, _, _, _⟩) (i := 10) (v := .string ⟨l1.toArray⟩) rfl (by kernel_rfl) (by kernel_rfl) (by kernel_rfl) (fun _ _ _ h => h) (Or.inl ⟨by rfl, ?_⟩) (by assumption) ?_
                    · (intro W hSw; (have y3 := hSw.2.1.box.at (k := 3) rfl); (have y4 := hSw.2.2.2.1.box.at (k := 4) rfl); (have cv1 := conv_bytes (c := cB) hSw.2.1.row.src); (have cv2 := conv_bytes (c := cA) hSw.2.2.1.src); clear hSw; go_simp; try (exact wrap_b8 _); try (with_reducible rfl))
                    try simp only [Act.put, List.setIfInBounds_toArray, List.set_cons_zero, List.set_cons_succ]
                    refine wpAnyH_take (oi := ⟨_, _, _, _, _, _⟩) (i := 11) (v := .bool true) rfl (by kernel_rfl) (by kernel_rfl) (by kernel_rfl) (fun _ _ _ h => h) (Or.inl ⟨by rfl, ?_⟩) (by assumption) ?_
                    · (intro W hSw; (have y3 := hSw.2.1.box.at (k := 3) rfl); (have y4 := hSw.2.2.2.1.box.at (k := 4) rfl); (have cv1 := conv_bytes (c := cB) hSw.2.1.row.src); (have cv2 := conv_bytes (c := cA) hSw.2.2.1.src); clear hSw; go_simp; try (exact wrap_b8 _); try (with_reducible rfl))
                    try simp only [Act.put, List.setIfInBounds_toArray, List.set_cons_zero, List.set_cons_succ]
                    refine wpAnyH_take (oi := ⟨_, _, _, _, _, _⟩) (i := 12) (v := .bool true) rfl (by kernel_rfl) (by kernel_rfl) (by kernel_rfl) (fun _ _ _ h => h) (Or.inl ⟨by rfl, ?_⟩) (by assumption) ?_
                    · (intro W hSw; (have y3 := hSw.2.1.box.at (k := 3) rfl); (have y4 := hSw.2.2.2.1.box.at (k := 4) rfl); (have cv1 := conv_bytes (c := cB) hSw.2.1.row.src); (have cv2 := conv_bytes (c := cA) hSw.2.2.1.src); clear hSw; go_simp; try (exact wrap_b8 _); try (with_reducible rfl))
                    try simp only [Act.put, List.setIfInBounds_toArray, List.set_cons_zero, List.set_cons_succ]
                    refine wpAnyH_take (oi := ⟨_, _, _, _, _, _⟩) (i := 13) (v := .bool true) rfl (by kernel_rfl) (by kernel_rfl) (by kernel_rfl) (fun _ _ _ h => h) (Or.inl ⟨by rfl, ?_⟩) (by assumption) ?_
                    · (intro W hSw; (have y3 := hSw.2.1.box.at (k := 3) rfl); (have y4 := hSw.2.2.2.1.box.at (k := 4) rfl); (have cv1 := conv_bytes (c := cB) hSw.2.1.row.src); (have cv2 := conv_bytes (c := cA) hSw.2.2.1.src); clear hSw; go_simp; try (exact wrap_b8 _); try (with_reducible rfl))
                    try simp only [Act.put, List.setIfInBounds_toArray, List.set_cons_zero, List.set_cons_succ]
                    refine wpAnyH_take (oi := ⟨_, _, _, _, _, _⟩) (i := 14) (v := .int .i64 E2) rfl (by kernel_rfl) (by kernel_rfl) (by kernel_rfl) (fun _ _ _ h => h) (Or.inl ⟨by rfl, ?_⟩) (by assumption) ?_
                    · (intro W hSw; (have y3 := hSw.2.1.box.at (k := 3) rfl); (have y4 := hSw.2.2.2.1.box.at (k := 4) rfl); (have cv1 := conv_bytes (c := cB) hSw.2.1.row.src); (have cv2 := conv_bytes (c := cA) hSw.2.2.1.src); clear hSw; go_simp; try (exact wrap_b8 _); try (with_reducible rfl))
                    try simp only [Act.put, List.setIfInBounds_toArray, List.set_cons_zero, List.set_cons_succ]
                    refine wpAnyH_take (oi := ⟨_, _, _, _, _, _⟩) (i := 15) (v := .int .i64 E2) rfl (by kernel_rfl) (by kernel_rfl) (by kernel_rfl) (fun _ _ _ h => h) (Or.inl ⟨by rfl, ?_⟩) (by assumption) ?_
                    · (intro W hSw; (have y3 := hSw.2.1.box.at (k := 3) rfl); (have y4 := hSw.2.2.2.1.box.at (k := 4) rfl); (have cv1 := conv_bytes (c := cB) hSw.2.1.row.src); (have cv2 := conv_bytes (c := cA) hSw.2.2.1.src); clear hSw; go_simp; try (exact wrap_b8 _); try (with_reducible rfl))
                    try simp only [Act.put, List.setIfInBounds_toArray, List.set_cons_zero, List.set_cons_succ]
                    refine wpAnyH_take (oi := ⟨_, _, _, _, _, _⟩) (i := 16) (v := .bool true) rfl (by kernel_rfl) (by kernel_rfl) (by kernel_rfl) (fun _ _ _ h => h) (Or.inl ⟨by rfl, ?_⟩) (by assumption) ?_
                    · (intro W hSw; (have y3 := hSw.2.1.box.at (k := 3) rfl); (have y4 := hSw.2.2.2.1.box.at (k := 4) rfl); (have cv1 := conv_bytes (c := cB) hSw.2.1.row.src); (have cv2 := conv_bytes (c := cA) hSw.2.2.1.src); clear hSw; go_simp; try (exact wrap_b8 _); try (with_reducible rfl))
                    try simp only [Act.put, List.setIfInBounds_toArray, List.set_cons_zero, List.set_cons_succ]
                    refine wpAnyH_take (oi := ⟨_, _, _, _, _, _⟩) (i := 17) (v := .bool true) rfl (by kernel_rfl) (by kernel_rfl) (by kernel_rfl) (fun _ _ _ h => h) (Or.inl ⟨by rfl, ?_⟩) (by assumption) ?_
                    · (intro W hSw; (have y3 := hSw.2.1.box.at (k := 3) rfl); (have y4 := hSw.2.2.2.1.box.at (k := 4) rfl); (have cv1 := conv_bytes (c := cB) hSw.2.1.row.src); (have cv2 := conv_bytes (c := cA) hSw.2.2.1.src); clear hSw; go_simp; try (exact wrap_b8 _); try (with_reducible rfl))
                    try simp only [Act.put, List.setIfInBounds_toArray, List.set_cons_zero, List.set_cons_succ]
                    refine wpAnyH_take (oi := ⟨_, _, _, _, _, _⟩) (i := 18) (v := .bool true) rfl (by kernel_rfl) (by kernel_rfl) (by kernel_rfl) (fun _ _ _ h => h) (Or.inl ⟨by rfl, ?_⟩) (by assumption) ?_
                    · (intro W hSw; (have y3 := hSw.2.1.box.at (k := 3) rfl); (have y4 := hSw.2.2.2.1.box.at (k := 4) rfl); (have cv1 := conv_bytes (c := cB) hSw.2.1.row.src); (have cv2 := conv_bytes (c := cA) hSw.2.2.1.src); clear hSw; go_simp; try (exact wrap_b8 _); try (with_reducible rfl))
                    try simp only [Act.put, List.setIfInBounds_toArray, List.set_cons_zero, List.set_cons_succ]
                    refine wpAnyH_take (oi := ⟨_, _, _, _, _, _⟩) (i := 19) (v := .pointer (some ⟨gt, 0, none⟩)) rfl (by kernel_rfl) (by kernel_rfl) (by kernel_rfl) (fun _ _ _ h => h) (Or.inl ⟨by rfl, ?_⟩) (by assumption) ?_
                    · (intro W hSw; (have y3 := hSw.2.1.box.at (k := 3) rfl); (have y4 := hSw.2.2.2.1.box.at (k := 4) rfl); (have cv1 := conv_bytes (c := cB) hSw.2.1.row.src); (have cv2 := conv_bytes (c := cA) hSw.2.2.1.src); clear hSw; go_simp; try (exact wrap_b8 _); try (with_reducible rfl))
                    try simp only [Act.put, List.setIfInBounds_toArray, List.set_cons_zero, List.set_cons_succ]
                    refine wpAnyH_take (oi := ⟨_, _, _, _, _, _⟩) (i := 20) (v := .pointer (some ⟨gt, 0, none⟩)) rfl (by kernel_rfl) (by kernel_rfl) (by kernel_rfl) (fun _ _ _ h => h) (Or.inl ⟨by rfl, ?_⟩) (by assumption) ?_
                    · (intro W hSw; (have y3 := hSw.2.1.box.at (k := 3) rfl); (have y4 := hSw.2.2.2.1.box.at (k := 4) rfl); (have cv1 := conv_bytes (c := cB) hSw.2.1.row.src); (have cv2 := conv_bytes (c := cA) hSw.2.2.1.src); clear hSw; go_simp; try (exact wrap_b8 _); try (with_reducible rfl))
                    try simp only [Act.put, List.setIfInBounds_toArray, List.set_cons_zero, List.set_cons_succ]
                    refine wpAnyH_take (oi := ⟨_, _, _, _, _, _⟩) (i := 21) (v := .pointer (some ⟨gt, 4, none⟩)) rfl (by kernel_rfl) (by kernel_rfl) (by kernel_rfl) (fun _ _ _ h => h) (Or.inl ⟨by rfl, ?_⟩) (by assumption) ?_
                    · (intro W hSw; (have y3 := hSw.2.1.box.at (k := 3) rfl); (have y4 := hSw.2.2.2.1.box.at (k := 4) rfl); (have cv1 := conv_bytes (c := cB) hSw.2.1.row.src); (have cv2 := conv_bytes (c := cA) hSw.2.2.1.src); clear hSw; go_simp; try (exact wrap_b8 _); try (with_reducible rfl))
                    try simp only [Act.put, List.setIfInBounds_toArray, List.set_cons_zero, List.set_cons_succ]
                    refine wpAnyH_take (oi := ⟨_, _, _, _, _, _⟩) (i := 22) (v := .slice pX N2 cX) rfl (by kernel_rfl) (by kernel_rfl) (by kernel_rfl) (fun _ _ _ h => h) (Or.inl ⟨by rfl, ?_⟩) (by assumption) ?_
                    · (intro W hSw; (have y3 := hSw.2.1.box.at (k := 3) rfl); (have y4 := hSw.2.2.2.1.box.at (k := 4) rfl); (have cv1 := conv_bytes (c := cB) hSw.2.1.row.src); (have cv2 := conv_bytes (c := cA) hSw.2.2.1.src); clear hSw; go_simp; try (exact wrap_b8 _); try (with_reducible rfl))
                    try simp only [Act.put, List.setIfInBounds_toArray, List.set_cons_zero, List.set_cons_succ]
                    refine wpAnyH_take (oi := ⟨_, _, _, _, _, _⟩) (i := 23) (v := .slice pV N2 cV) rfl (by kernel_rfl) (by kernel_rfl) (by kernel_rfl) (fun _ _ _ h => h) (Or.inl ⟨by rfl, ?_⟩) (by assumption) ?_
                    · (intro W hSw; (have y3 := hSw.2.1.box.at (k := 3) rfl); (have y4 := hSw.2.2.2.1.box.at (k := 4) rfl); (have cv1 := conv_bytes (c := cB) hSw.2.1.row.src); (have cv2 := conv_bytes (c := cA) hSw.2.2.1.src); clear hSw; go_simp; try (exact wrap_b8 _); try (with_reducible rfl))
                    try simp only [Act.put, List.setIfInBounds_toArray, List.set_cons_zero, List.set_cons_succ]
                    refine wpAnyH_ready (rs := [24]) (by kernel_rfl) (by simp) ?_
                    refine AllReadyH.cons (o := ⟨_, _, _, _, _, _⟩) rfl (fun K hK => ?_) ?_
                    · go_simp
                      go_at_call 28
                      (with_reducible refine (same_says pX pV N2 cX cV t2 _ hS.2.2.2.1.row.sl hS.2.2.2.2).mono ?_)
                      rintro e W1 ⟨rfl, hb⟩
                      replace hS := And.intro (hS.1.trans (hb.mono hS.1.size)) (And.intro (hS.2.1.below hb) (And.intro (hS.2.2.1.below hb) (And.intro (hS.2.2.2.1.below hb) (hS.2.2.2.2.below hb))))
                      clear hb
                      refine hK.out _ _ hS (fun _ => ?_)
                      clear hK K
                      try simp only [Act.put, List.setIfInBounds_toArray, List.set_cons_zero, List.set_cons_succ]
                      refine wpAnyH_take (oi := ⟨_, _, _, _, _, _⟩) (i := 25) (v := .bool true) rfl (by kernel_rfl) (by kernel_rfl) (by kernel_rfl) (fun _ _ _ h => h) (Or.inl ⟨by rfl, ?_⟩) (by assumption) ?_
                      · (intro W hSw; (have y3 := hSw.2.1.box.at (k := 3) rfl); (have y4 := hSw.2.2.2.1.box.at (k := 4) rfl); (have cv1 := conv_bytes (c := cB) hSw.2.1.row.src); (have cv2 := conv_bytes (c := cA) hSw.2.2.1.src); clear hSw; go_simp; try (exact wrap_b8 _); try (with_reducible rfl))
                      try simp only [Act.put, List.setIfInBounds_toArray, List.set_cons_zero, List.set_cons_succ]
                      refine wpAnyH_take (oi := ⟨_, _, _, _, _, _⟩) (i := 26) (v := .bool true) rfl (by kernel_rfl) (by kernel_rfl) (by kernel_rfl) (fun _ _ _ h => h) (Or.inl ⟨by rfl, ?_⟩) (by assumption) ?_
                      · (intro W hSw; (have y3 := hSw.2.1.box.at (k := 3) rfl); (have y4 := hSw.2.2.2.1.box.at (k := 4) rfl); (have cv1 := conv_bytes (c := cB) hSw.2.1.row.src); (have cv2 := conv_bytes (c := cA) hSw.2.2.1.src); clear hSw; go_simp; try (exact wrap_b8 _); try (with_reducible rfl))
                      try simp only [Act.put, List.setIfInBounds_toArray, List.set_cons_zero, List.set_cons_succ]
                      refine wpAnyH_done (by kernel_rfl) ?_ _
                      have HF := hid hS.1
                      clear hS
                      go_wp2
                      go_ret
                      exact ⟨rfl, HF.out⟩
                    exact AllReadyH.nil
                  exact AllReadyH.nil
                exact AllReadyH.nil
              exact AllReadyH.nil
            exact AllReadyH.nil
      exact AllReadyH.nil
    exact AllReadyH.nil

  · go_upto_region 7 with fail
    have HMZB : Hid (-9223372036854775808 ≤ (4 : Int) ∧ (4 : Int) < 9223372036854775808) := ⟨by decide, by decide⟩
    have HL2 : Hid (CA w.heap.size #[.int .i64 mn, .int .i64 4, .bool true] 23 (((w1.setCell ⟨w.heap.size, 0, none⟩ (.int .i64 mn)).setCell ⟨w.heap.size, 1, none⟩ (.int .i64 4)).setCell ⟨w.heap.size, 2, none⟩ (.bool true))) := ((HL1.out.set (k := 0) _).set (k := 1) _).set (k := 2) _
    have hk3 : KP (some w.heap.size) w1 (((w1.setCell ⟨w.heap.size, 0, none⟩ (.int .i64 mn)).setCell ⟨w.heap.size, 1, none⟩ (.int .i64 4)).setCell ⟨w.heap.size, 2, none⟩ (.bool true)) := (((KP.refl _ _).setCell (.inl rfl) _).setCell (.inl rfl) _).setCell (.inl rfl) _
    have HV2 := hid (HV1.out.keep hk3 (by intro e; simp at e))
    have HB2 := hid (((HB1.out.setCell (p := ⟨w.heap.size, 0, none⟩) (Nat.le_refl _) (.int .i64 mn)).setCell (p := ⟨w.heap.size, 1, none⟩) (Nat.le_refl _) (.int .i64 4)).setCell (p := ⟨w.heap.size, 2, none⟩) (Nat.le_refl _) (.bool true))
    clear hlt HL1 HV1 HB1 y0 y1 y2 f0 f1 f2 h3 h4 hk3
    generalize ((w1.setCell ⟨w.heap.size, 0, none⟩ (.int .i64 mn)).setCell ⟨w.heap.size, 1, none⟩ (.int .i64 4)).setCell ⟨w.heap.size, 2, none⟩ (.bool true) = W0 at *
    have hS : CA w.heap.size #[.int .i64 mn, .int .i64 (4 : Int), .bool true] 23 W0.drew ∧ CA (w.heap.size + 1) #[.int .i64 x0, .int .u64 x1, .int .u64 x2, .bool x3] 32 W0.drew ∧ Below w.heap.size w W0.drew := ⟨HL2.out, HV2.out, ⟨HB2.out.os, HB2.out.tape, HB2.out.output, HB2.out.size, HB2.out.block⟩⟩
    refine wp_region_held_drew (S := fun W => CA w.heap.size #[.int .i64 mn, .int .i64 (4 : Int), .bool true] 23 W ∧ CA (w.heap.size + 1) #[.int .i64 x0, .int .u64 x1, .int .u64 x2, .bool x3] 32 W ∧ Below w.heap.size w W) (by kernel_rfl) hS (fun _ => ?_)
    clear HL2 HV2 HB2
    generalize W0.drew = W at *
    refine wpAnyH_take (oi := ⟨_, _, _, _, _, _⟩) (i := 0) (v := .agg #[.int .i64 mn, .int .i64 (4 : Int), .bool true]) rfl (by kernel_rfl) (by kernel_rfl) (by kernel_rfl) (fun _ _ _ h => h) (Or.inl ⟨by rfl, ?_⟩) (by assumption) ?_
    · (intro W hSw; (have l0 := hSw.1.at (k := 0) rfl); (have l1 := hSw.1.at (k := 1) rfl); (have l2 := hSw.1.at (k := 2) rfl); clear hSw; (have wm := HWM.out); go_simp; try (exact wrap_b8 _); try (with_reducible rfl))
    try simp only [Act.put, List.setIfInBounds_toArray, List.set_cons_zero, List.set_cons_succ]
    refine wpAnyH_take (oi := ⟨_, _, _, _, _, _⟩) (i := 1) (v := .int .i64 k) rfl (by kernel_rfl) (by kernel_rfl) (by kernel_rfl) (fun _ _ _ h => h) (Or.inl ⟨by rfl, ?_⟩) (by assumption) ?_
    · (intro W hSw; (have l0 := hSw.1.at (k := 0) rfl); (have l1 := hSw.1.at (k := 1) rfl); (have l2 := hSw.1.at (k := 2) rfl); clear hSw; (have wm := HWM.out); go_simp; try (exact wrap_b8 _); try (with_reducible rfl))
    try simp only [Act.put, List.setIfInBounds_toArray, List.set_cons_zero, List.set_cons_succ]
    refine wpAnyH_take (oi := ⟨_, _, _, _, _, _⟩) (i := 2) (v := .int .i64 M) rfl (by kernel_rfl) (by kernel_rfl) (by kernel_rfl) (fun _ _ _ h => h) (Or.inl ⟨by rfl, ?_⟩) (by assumption) ?_
    · (intro W hSw; (have l0 := hSw.1.at (k := 0) rfl); (have l1 := hSw.1.at (k := 1) rfl); (have l2 := hSw.1.at (k := 2) rfl); clear hSw; (have wm := HWM.out); go_simp; try (exact wrap_b8 _); try (with_reducible rfl))
    try simp only [Act.put, List.setIfInBounds_toArray, List.set_cons_zero, List.set_cons_succ]
    refine wpAnyH_ready (rs := [3]) (by kernel_rfl) (by simp) ?_
    refine AllReadyH.cons (o := ⟨_, _, _, _, _, _⟩) rfl (fun K hK => ?_) ?_
    · refine make_S rfl (.tmp 41) (.tmp 41) rfl M rfl rfl HM1.out w.heap.size hS.2.2.size ?_
      intro W1 hrow hbel
      have HROW := hid hrow
      have HGB : Hid (w.heap.size + 1 < W.heap.size) := hS.2.1.lt
      have HGW : Hid (w.heap.size ≤ W.heap.size) := hS.2.2.size
      replace hS := And.intro (hS.1.below hbel hS.1.lt) (And.intro (hS.2.1.below hbel hS.2.1.lt) (hS.2.2.trans (hbel.mono hS.2.2.size)))
      clear hrow hbel
      generalize W.heap.size = gb at *
      refine hK.out _ _ hS (fun _ => ?_)
      clear hK K
      try simp only [Act.put, List.setIfInBounds_toArray, List.set_cons_zero, List.set_cons_succ]
      refine wpAnyH_take (oi := ⟨_, _, _, _, _, _⟩) (i := 4) (v := .agg #[.int .i64 mn, .int .i64 (4 : Int), .bool true, .slice (some ⟨gb, 0, none⟩) M M]) rfl (by kernel_rfl) (by kernel_rfl) (by kernel_rfl) (fun _ _ _ h => h) (Or.inl ⟨by rfl, ?_⟩) (by assumption) ?_
      · (intro W hSw; (have l0 := hSw.1.at (k := 0) rfl); (have l1 := hSw.1.at (k := 1) rfl); (have l2 := hSw.1.at (k := 2) rfl); clear hSw; (have wm := HWM.out); go_simp; try (exact wrap_b8 _); try (with_reducible rfl))
      try simp only [Act.put, List.setIfInBounds_toArray, List.set_cons_zero, List.set_cons_succ]
      refine wpAnyH_ready (rs := [5]) (by kernel_rfl) (by simp) ?_
      refine AllReadyH.cons (o := ⟨_, _, _, _, _, _⟩) rfl (fun K hK => ?_) ?_
      · go_simp
        have HMEM : Hid (MemA w.heap.size W1.heap.size mn (4 : Int) true (some ⟨gb, 0, none⟩) M M (repC [.int .u8 0] M) (W1.alloc (.cells #[.int .i64 mn, .int .i64 (4 : Int), .bool true, .slice (some ⟨gb, 0, none⟩) M M] 29))) := ⟨CA.new _ _ _, HROW.out.below ((Below.refl _ _).alloc (Nat.le_refl _) _)⟩
        have HGM : Hid (w.heap.size ≤ W1.heap.size) := hS.2.2.size
        replace hS := And.intro (hS.1.alloc (.cells #[.int .i64 mn, .int .i64 (4 : Int), .bool true, .slice (some ⟨gb, 0, none⟩) M M] 29)) (And.intro (hS.2.1.alloc (.cells #[.int .i64 mn, .int .i64 (4 : Int), .bool true, .slice (some ⟨gb, 0, none⟩) M M] 29)) (hS.2.2.alloc hS.2.2.size (.cells #[.int .i64 mn, .int .i64 (4 : Int), .bool true, .slice (some ⟨gb, 0, none⟩) M M] 29)))
        clear HROW
        generalize W1.alloc (.cells #[.int .i64 mn, .int .i64 (4 : Int), .bool true, .slice (some ⟨gb, 0, none⟩) M M] 29) = W2 at *
        generalize W1.heap.size = gm at *
        refine hK.out _ _ hS (fun _ => ?_)
        clear hK K
        try simp only [Act.put, List.setIfInBounds_toArray, List.set_cons_zero, List.set_cons_succ]
        refine wpAnyH_take (oi := ⟨_, _, _, _, _, _⟩) (i := 6) (v := .pointer (some ⟨gm, 0, none⟩)) rfl (by kernel_rfl) (by kernel_rfl) (by kernel_rfl) (fun _ _ _ h => h) (Or.inl ⟨by rfl, ?_⟩) (by assumption) ?_
        · (intro W hSw; (have l0 := hSw.1.at (k := 0) rfl); (have l1 := hSw.1.at (k := 1) rfl); (have l2 := hSw.1.at (k := 2) rfl); clear hSw; (have wm := HWM.out); go_simp; try (exact wrap_b8 _); try (with_reducible rfl))
        try simp only [Act.put, List.setIfInBounds_toArray, List.set_cons_zero, List.set_cons_succ]
        refine wpAnyH_done (by kernel_rfl) ?_ _
        have HL := hid hS.1
        have HV := hid hS.2.1
        have HB := hid hS.2.2
        clear hS
        go_upto_block 0 with (at_make; refine wpList_make_full _ rfl _ _ 27 rfl w.heap.size 5 i0 (.int .u8 0) 1 Try.underlying27 hi0 hz0 hz1 .i64 .i64 _ _ M rfl rfl rfl rfl (by rw [hz2]; have := HM1.out; omega) (by have := HM1.out; unfold maxLen; omega) HB.out.size ?_; intro wz hownz hgrowz)
        have hbz := (Below.refl W2.heap.size W2).grown hgrowz (Nat.le_refl _) (by simp)
        rw [madeB] at hownz
        have HRZ : Hid (Row w.heap.size 5 1 (some ⟨W2.heap.size, 0, none⟩) M M (repC [.int .u8 0] M) wz) := ⟨hownz, repC_one (by simp [Value.oneCell']) _⟩
        have HMZ := hid (HMEM.out.below hbz)
        have HLZ := hid (HL.out.below hbz HL.out.lt)
        have HVZ := hid (HV.out.below hbz HV.out.lt)
        have HBZ := hid (HB.out.trans (hbz.mono HB.out.size))
        have HGZ : Hid (gm < W2.heap.size) := HMEM.out.box.lt
        have HGZB : Hid (gb < W2.heap.size) := by have := HMEM.out.row.own.lt gb rfl; exact this.2
        have HGZW : Hid (w.heap.size ≤ W2.heap.size) := HB.out.size
        clear hbz hownz hgrowz HMEM HL HV HB
        generalize W2.heap.size = gz at *
        have hzl : Lib.byteCells (List.replicate M (0 : UInt8)) = repC [.int .u8 0] M := bytes_rep M 0
        rw [← hzl] at HRZ HMZ
        have hM62 : (M : Int) < 9223372036854775808 := by have := HM1.out; omega
        have HZL := hid (List.length_replicate (n := M) (a := (0 : UInt8)))
        generalize List.replicate M (0 : UInt8) = lz at HRZ HMZ HZL
        clear hzl
        have HZL2 : Hid (lz.length = M) := HZL.out
        have HK1 := hid hk1
        clear he hk1 hk hi0 hz0 hz1 hz2
        go_wp2
        go_loopw [15] (fun vi wr => ∃ (j : Nat) (l : List UInt8), vi = .int .i64 j ∧ Hid (j ≤ M + 1000) ∧ Hid (l.length = M) ∧ Hid (Row w.heap.size 5 1 (some ⟨gz, 0, none⟩) M M (Lib.byteCells l) wr) ∧ Hid (MemA w.heap.size gm mn (4 : Int) true (some ⟨gb, 0, none⟩) M M (Lib.byteCells l) wr) ∧ Hid (CA w.heap.size #[.int .i64 mn, .int .i64 (4 : Int), .bool true] 23 wr) ∧ Hid (CA (w.heap.size + 1) #[.int .i64 x0, .int .u64 x1, .int .u64 x2, .bool x3] 32 wr) ∧ Hid (Below w.heap.size w wr)) (fun vi _ => M + 1000 - (intOf vi).toNat)
        case atStart => exact ⟨0, lz, rfl, Nat.zero_le _, HZL2, HRZ, HMZ, HLZ, HVZ, HBZ⟩
        case round =>
          obtain ⟨j, l, rfl, HJ, HLL, HR, HMM, HLi, HVi, HBi⟩ := hrel
          have hj62 : (j : Int) < 1000002000 := by have := HJ.out; have := HM1.out; omega
          by_cases hlt : j < M
          · have hjl : j < l.length := by rw [HLL.out]; exact hlt
            obtain ⟨g', cur, e, hB', hca, hcs⟩ := HR.out.pos (by omega)
            cases e
            obtain ⟨g'', cur2, e, hB2', hca2, hcs2⟩ := HMM.out.row.pos (by omega)
            cases e
            have z0 : wr.cell? ⟨gz, j, none⟩ = some (cur[j]'(by omega)) := hca.at (by rw [Array.getElem?_eq_getElem])
            have z1 := hca.free j
            have z2 : wr.cell? ⟨gb, j, none⟩ = some (cur2[j]'(by omega)) := hca2.at (by rw [Array.getElem?_eq_getElem])
            have z3 := hca2.free j
            have y3 := HMM.out.box.at (k := 3) (v := .slice (some ⟨gb, 0, none⟩) M M) rfl
            generalize cur[j]'_ = o0 at z0
            generalize cur2[j]'_ = o1 at z2
            have hne1 : gz ≠ gb := by have := HGZB.out; omega
            have hne2 : gz ≠ gm := by have := HGZ.out; omega
            have hne3 : gb ≠ gm := by
              intro e
              have := HMM.out.row.typ HMM.out.box (by decide)
              exact this (by rw [e]; rfl)
            have hne4 : gz ≠ w.heap.size := by have := HGZB.out; have := HGB.out; omega
            have hne5 : gz ≠ w.heap.size + 1 := by have := HGZB.out; have := HGB.out; omega
            have hne6 : gb ≠ w.heap.size := by have := HGB.out; omega
            have hne7 : gb ≠ w.heap.size + 1 := by have := HGB.out; omega
            obtain ⟨u, hu⟩ : ∃ u : UInt8, (u.toNat : Int) = (j : Int) % 256 := ⟨UInt8.ofNat j, by simp⟩
            have HCA := hid hca
            have HCA2 := hid hca2
            have HN1 := hid hne1
            have HN2 := hid hne2
            have HN3 := hid hne3
            have HN4 := hid hne4
            have HN5 := hid hne5
            have HN6 := hid hne6
            have HN7 := hid hne7
            have HJL := hid hjl
            have HU := hid hu
            have hne1s := Ne.symm hne1
            have hne2s := Ne.symm hne2
            clear hca hca2 hcs hcs2 hB' hB2' hne3 hne4 hne5 hne6 hne7 hjl hu
            go_wp2
            go_roundw
            case rel =>
              obtain ⟨W2, hW2⟩ : ∃ W2, W2 = wr.setCell ⟨gz, j, none⟩ (.int .u8 ((j : Int) % 256)) := ⟨_, rfl⟩
              have hset : Lib.byteCells (l.set j u) = splice (Lib.byteCells l) j [.int .u8 ((j : Int) % 256)] := by
                rw [← splice_one _ _ _ (by rw [Lib.byteCells_length]; exact HJL.out), ← HU.out]
                simp [Lib.byteCells, List.map_set]
              have hr1 : Row w.heap.size 5 1 (some ⟨gz, 0, none⟩) M M (Lib.byteCells (l.set j u)) W2 := by
                rw [hset]
                refine HR.out.splice (by rw [Lib.byteCells_length]; have := HJL.out; simp; omega) (by simp [Value.oneCell']) (fun cur3 hc3 => ?_)
                have h5 := (show CA gz cur3 5 wr from hc3).set (k := j) (.int .u8 ((j : Int) % 256))
                have hcl : j < cur3.toList.length := by
                  have h6 := HCA.out
                  unfold CA at h6
                  rw [h6] at hc3
                  cases hc3
                  have := HR.out.own
                  obtain ⟨g9, cur9, e9, _, hc9, hs9⟩ := HR.out.pos (by omega)
                  cases e9
                  unfold CA at hc9
                  rw [h6] at hc9
                  cases hc9
                  simp
                  omega
                rw [← splice_one _ _ _ hcl, hW2, show (cur3.toList.set j (.int .u8 ((j : Int) % 256))).toArray = cur3.setIfInBounds j (.int .u8 ((j : Int) % 256)) by rw [← Array.toList_setIfInBounds, Array.toArray_toList]]
                exact h5
              have hk1 : KP (some gz) wr W2 := by rw [hW2]; exact (KP.refl _ _).setCell (.inl rfl) _
              have hm1 : MemA w.heap.size gm mn (4 : Int) true (some ⟨gb, 0, none⟩) M M (Lib.byteCells l) W2 := ⟨HMM.out.box.keep hk1 (by intro e; cases e; exact HN2.out rfl), HMM.out.row.keep hk1 (by rintro _ _ ⟨⟩ e; cases e; exact HN1.out rfl)⟩
              have hm2 : Row w.heap.size 5 1 (some ⟨gb, 0, none⟩) M M (Lib.byteCells (l.set j u)) (W2.setCell ⟨gb, j, none⟩ (.int .u8 ((j : Int) % 256))) := by
                rw [hset]
                refine hm1.row.splice (by rw [Lib.byteCells_length]; have := HJL.out; simp; omega) (by simp [Value.oneCell']) (fun cur3 hc3 => ?_)
                have h5 := (show CA gb cur3 5 W2 from hc3).set (k := j) (.int .u8 ((j : Int) % 256))
                have hcl : j < cur3.toList.length := by
                  obtain ⟨g9, cur9, e9, _, hc9, hs9⟩ := hm1.row.pos (by omega)
                  cases e9
                  unfold CA at hc9
                  rw [hc3] at hc9
                  cases hc9
                  simp
                  omega
                rw [← splice_one _ _ _ hcl, show (cur3.toList.set j (.int .u8 ((j : Int) % 256))).toArray = cur3.setIfInBounds j (.int .u8 ((j : Int) % 256)) by rw [← Array.toList_setIfInBounds, Array.toArray_toList]]
                exact h5
              have hk2 : KP (some gb) W2 (W2.setCell ⟨gb, j, none⟩ (.int .u8 ((j : Int) % 256))) := (KP.refl _ _).setCell (.inl rfl) _
              subst hW2
              refine ⟨j + 1000, l.set j u, by go_num, by show _ ≤ _; omega, by rw [List.length_set]; exact HLL, hr1.keep hk2 (by rintro _ _ ⟨⟩ e; cases e; exact HN1.out rfl), ⟨hm1.box.keep hk2 (by intro e; cases e; exact HN3.out rfl), hm2⟩, (HLi.out.keep hk1 (by intro e; cases e; exact HN4.out rfl)).keep hk2 (by intro e; cases e; exact HN6.out rfl), (HVi.out.keep hk1 (by intro e; cases e; exact HN5.out rfl)).keep hk2 (by intro e; cases e; exact HN7.out rfl), (HBi.out.setCell (p := ⟨gz, j, none⟩) HGZW.out _).setCell (p := ⟨gb, j, none⟩) HGW.out _⟩
            case measure => simp [intOf]; omega
          · have hk1 := HK1.out
            have hz3 : -9223372036854775808 ≤ (4 : Int) := HMZB.out.1
            have hz4 : (4 : Int) < 9223372036854775808 := HMZB.out.2
            obtain ⟨ok, hok⟩ : ∃ ok, roomB k n (lim65 most) (4 : Int) true = ok := ⟨_, rfl⟩
            obtain ⟨N1, hN1⟩ : ∃ N1, N1 = 65536 * gN ok k (k + n) := ⟨_, rfl⟩
            obtain ⟨l1, hl1⟩ : ∃ l1, l1 = gX ok l (List.replicate (65536 * n) 0) := ⟨_, rfl⟩
            obtain ⟨E, hE⟩ : ∃ E, E = gE ok k := ⟨_, rfl⟩
            have PR : Hid (Calls Try.prog 18 #[.slice (some ⟨gz, 0, none⟩) M M, .agg #[.int .i64 mn, .int .i64 (4 : Int), .bool true], .int .u64 n, .int .i64 most] wr fun e w' => ∃ p' c', e = .returned (.tuple #[.slice p' N1 c', .int .i64 E]) ∧ Sl 1 p' N1 c' (Lib.byteCells l1) w' ∧ Below wr.heap.size wr w' ∧ NB wr (some ⟨gz, 0, none⟩) p') := by
              have h := rgrow_b (some ⟨gz, 0, none⟩) k M n most mn (4 : Int) true (Lib.byteCells l) wr (HMK.out ▸ HR.out.sl) (by omega) hn h1 h2 hz3 hz4 ok hok
              rw [gX_bytes, ← hN1, ← hl1, ← hE, ← HMK.out] at h
              exact h
            have PGR : ∀ W, MemA w.heap.size gm mn (4 : Int) true (some ⟨gb, 0, none⟩) M M (Lib.byteCells l) W → w.heap.size ≤ W.heap.size → Hid (Calls Try.prog 17 #[.pointer (some ⟨gm, 0, none⟩), .int .u64 n, .int .i64 most] W fun e w' => ∃ p' c', e = .returned (.int .i64 E) ∧ MemA w.heap.size gm mn (4 : Int) true p' N1 c' (Lib.byteCells l1) w' ∧ KP (some gm) W w' ∧ NB W (some ⟨gb, 0, none⟩) p') := by
              intro W hm hB
              have h := grow_b w.heap.size gm mn (4 : Int) true (some ⟨gb, 0, none⟩) k M n most (Lib.byteCells l) W (HMK.out ▸ hm) hB (by omega) hn h1 h2 hz3 hz4 ok hok
              rw [gX_bytes, ← hN1, ← hl1, ← hE] at h
              exact h
            have HG1 : Hid (gm ≠ w.heap.size) := HMM.out.box.ne HLi.out (by decide)
            have HG2 : Hid (gm ≠ w.heap.size + 1) := HMM.out.box.ne HVi.out (by decide)
            have HG3 : Hid (blk (some ⟨gz, 0, none⟩) ≠ some gm) := HR.out.typ HMM.out.box (by decide)
            have l0 := HLi.out.at (k := 0) (v := .int .i64 mn) rfl
            have l1' := HLi.out.at (k := 1) (v := .int .i64 (4 : Int)) rfl
            have l2 := HLi.out.at (k := 2) (v := .bool true) rfl
            obtain ⟨ok2, hok2⟩ : ∃ ok2, roomB k n 10000 (4 : Int) true = ok2 := ⟨_, rfl⟩
            obtain ⟨N2, hN2⟩ : ∃ N2, N2 = gN ok2 k (k + n) := ⟨_, rfl⟩
            obtain ⟨lk, hlk⟩ : ∃ lk, lk = List.replicate k (⟨5, 0, 0, false⟩ : V4) := ⟨_, rfl⟩
            obtain ⟨t2, ht2⟩ : ∃ t2, t2 = gX ok2 lk (List.replicate n (⟨x0, x1, x2, x3⟩ : V4)) := ⟨_, rfl⟩
            obtain ⟨E2, hE2⟩ : ∃ E2, E2 = gE ok2 k := ⟨_, rfl⟩
            have PREP : ∀ W : World, Hid (Calls Try.prog 22 #[.agg #[.int .i64 5, .int .u64 0, .int .u64 0, .bool false], .int .u64 k] W fun e w' => ∃ p' c', e = .returned (.slice p' k c') ∧ Row W.heap.size 32 4 p' k c' (cellsV lk) w' ∧ Below W.heap.size W w') := fun W => by
              have h := rep_says 5 0 0 false k (by omega) W
              have hc : cellsV lk = repC [.int .i64 5, .int .u64 0, .int .u64 0, .bool false] k := by rw [hlk]; exact cellsV_rep ⟨5, 0, 0, false⟩ k
              rw [hc]
              exact h
            have PRT : ∀ p c W, Sl 4 p k c (cellsV lk) W → Hid (Calls Try.prog 27 #[.slice p k c, .agg #[.int .i64 mn, .int .i64 (4 : Int), .bool true], .int .u64 n, .agg #[.int .i64 x0, .int .u64 x1, .int .u64 x2, .bool x3]] W fun e w' => ∃ p' c', e = .returned (.tuple #[.slice p' N2 c', .int .i64 E2]) ∧ Sl 4 p' N2 c' (cellsV t2) w' ∧ Below W.heap.size W w' ∧ NB W p p') := fun p c W hs => by
              have h := rgrow_v p k c n mn (4 : Int) true x0 x1 x2 x3 (cellsV lk) W hs (by omega) hn hz3 hz4 ok2 hok2
              rw [show ([.int .i64 x0, .int .u64 x1, .int .u64 x2, .bool x3] : List Value) = (⟨x0, x1, x2, x3⟩ : V4).cs from rfl, gX_vals, ← hN2, ← ht2, ← hE2] at h
              exact h
            have PGT : ∀ p c gt W, TabA w.heap.size gt 0 mn (4 : Int) true p k c (cellsV lk) W → w.heap.size ≤ W.heap.size → Hid (Calls Try.prog 26 #[.pointer (some ⟨gt, 0, none⟩), .int .u64 n, .agg #[.int .i64 x0, .int .u64 x1, .int .u64 x2, .bool x3]] W fun e w' => ∃ p' c', e = .returned (.int .i64 E2) ∧ TabA w.heap.size gt 0 mn (4 : Int) true p' N2 c' (cellsV t2) w' ∧ KP (some gt) W w' ∧ NB W p p') := fun p c gt W ht hB => by
              have h := grow_v w.heap.size gt 0 mn (4 : Int) true p k c n x0 x1 x2 x3 (cellsV lk) W hB ht (by omega) hn hz3 hz4 ok2 hok2
              rw [show ([.int .i64 x0, .int .u64 x1, .int .u64 x2, .bool x3] : List Value) = (⟨x0, x1, x2, x3⟩ : V4).cs from rfl, gX_vals, ← hN2, ← ht2, ← hE2] at h
              exact h
            have HWK : Hid (IntKind.u64.wrap (k : Int) = k) := by
              show _ = _
              rw [IntKind.wrap_u64]; omega
            have HSZK := hid hk1
            clear hz3 hz4 hok hN1 hl1 hE hok2 hN2 hlk ht2 hE2 hk1
            go_upto_region 14 with fail
            clear hlt hj62 hM62
            go_upto_region 15 with (go_at_call 18; (with_reducible refine PR.out.mono ?_); rintro e wA ⟨pA, cA, rfl, hsA, hbA, hnA⟩; have HSA := hid hsA; have HMA := hid (HMM.out.below hbA); have HLA := hid (HLi.out.below hbA HLi.out.lt); have HVA := hid (HVi.out.below hbA HVi.out.lt); have HBA := hid (HBi.out.trans (hbA.mono HBi.out.size)); have HNA : Hid (blk pA ≠ some gm) := (hnA gm HMM.out.box.lt HG3.out); clear hsA hbA hnA PR)
            clear HR HMM HLi HVi HBi l0 l1' l2
            go_upto_region 16 with (go_at_call 17; (with_reducible refine (PGR wA HMA.out HBA.out.size).out.mono ?_); rintro e wB ⟨pB, cB, rfl, hmB, hkB, hnB⟩; have HMB := hid hmB; have HSB := hid (HSA.out.keep hkB (by rintro g o rfl e; cases e; exact HNA.out rfl)); have HLB := hid (HLA.out.keep hkB (by intro e; cases e; exact HG1.out rfl)); have HVB := hid (HVA.out.keep hkB (by intro e; cases e; exact HG2.out rfl)); have HBB := hid (HBA.out.trans (hkB.below HBA.out.size (by rintro _ ⟨⟩; exact HGM.out))); clear hmB hkB hnB PGR)
            clear HSA HMA HLA HVA HBA
            have hS : CA w.heap.size #[.int .i64 mn, .int .i64 (4 : Int), .bool true] 23 wB.drew ∧ CA (w.heap.size + 1) #[.int .i64 x0, .int .u64 x1, .int .u64 x2, .bool x3] 32 wB.drew ∧ Below w.heap.size w wB.drew := ⟨HLB.out, HVB.out, ⟨HBB.out.os, HBB.out.tape, HBB.out.output, HBB.out.size, HBB.out.block⟩⟩
            have HMB2 : Hid (MemA w.heap.size gm mn (4 : Int) true pB N1 cB (Lib.byteCells l1) wB.drew) := ⟨HMB.out.box, HMB.out.row.drew⟩
            have HSB2 : Hid (Sl 1 pA N1 cA (Lib.byteCells l1) wB.drew) := ⟨HSB.out.src.drew, HSB.out.cap, HSB.out.big, HSB.out.nil⟩
            refine wp_region_held_drew (S := fun W => CA w.heap.size #[.int .i64 mn, .int .i64 (4 : Int), .bool true] 23 W ∧ CA (w.heap.size + 1) #[.int .i64 x0, .int .u64 x1, .int .u64 x2, .bool x3] 32 W ∧ Below w.heap.size w W) (by kernel_rfl) hS (fun _ => ?_)
            clear HLB HVB HBB HMB HSB
            generalize wB.drew = W at *
            refine wpAnyH_take (oi := ⟨_, _, _, _, _, _⟩) (i := 0) (v := .agg #[.int .i64 mn, .int .i64 (4 : Int), .bool true]) rfl (by kernel_rfl) (by kernel_rfl) (by kernel_rfl) (fun _ _ _ h => h) (Or.inl ⟨by rfl, ?_⟩) (by assumption) ?_
            · (intro W hSw; (have l0 := hSw.1.at (k := 0) rfl); (have l1 := hSw.1.at (k := 1) rfl); (have l2 := hSw.1.at (k := 2) rfl); (have v0 := hSw.2.1.at (k := 0) rfl); (have v1 := hSw.2.1.at (k := 1) rfl); (have v2 := hSw.2.1.at (k := 2) rfl); (have v3 := hSw.2.1.at (k := 3) rfl); clear hSw; (have wk := HWK.out); go_simp; try (exact wrap_b8 _); try (with_reducible rfl))
            try simp only [Act.put, List.setIfInBounds_toArray, List.set_cons_zero, List.set_cons_succ]
            refine wpAnyH_take (oi := ⟨_, _, _, _, _, _⟩) (i := 1) (v := .agg #[.int .i64 0, .int .i64 mn, .int .i64 (4 : Int), .bool true]) rfl (by kernel_rfl) (by kernel_rfl) (by kernel_rfl) (fun _ _ _ h => h) (Or.inl ⟨by rfl, ?_⟩) (by assumption) ?_
            · (intro W hSw; (have l0 := hSw.1.at (k := 0) rfl); (have l1 := hSw.1.at (k := 1) rfl); (have l2 := hSw.1.at (k := 2) rfl); (have v0 := hSw.2.1.at (k := 0) rfl); (have v1 := hSw.2.1.at (k := 1) rfl); (have v2 := hSw.2.1.at (k := 2) rfl); (have v3 := hSw.2.1.at (k := 3) rfl); clear hSw; (have wk := HWK.out); go_simp; try (exact wrap_b8 _); try (with_reducible rfl))
            try simp only [Act.put, List.setIfInBounds_toArray, List.set_cons_zero, List.set_cons_succ]
            refine wpAnyH_take (oi := ⟨_, _, _, _, _, _⟩) (i := 2) (v := .agg #[.int .i64 5, .int .u64 0, .int .u64 0, .bool false]) rfl (by kernel_rfl) (by kernel_rfl) (by kernel_rfl) (fun _ _ _ h => h) (Or.inl ⟨by rfl, ?_⟩) (by assumption) ?_
            · (intro W hSw; (have l0 := hSw.1.at (k := 0) rfl); (have l1 := hSw.1.at (k := 1) rfl); (have l2 := hSw.1.at (k := 2) rfl); (have v0 := hSw.2.1.at (k := 0) rfl); (have v1 := hSw.2.1.at (k := 1) rfl); (have v2 := hSw.2.1.at (k := 2) rfl); (have v3 := hSw.2.1.at (k := 3) rfl); clear hSw; (have wk := HWK.out); go_simp; try (exact wrap_b8 _); try (with_reducible rfl))
            try simp only [Act.put, List.setIfInBounds_toArray, List.set_cons_zero, List.set_cons_succ]
            refine wpAnyH_take (oi := ⟨_, _, _, _, _, _⟩) (i := 3) (v := .int .i64 k) rfl (by kernel_rfl) (by kernel_rfl) (by kernel_rfl) (fun _ _ _ h => h) (Or.inl ⟨by rfl, ?_⟩) (by assumption) ?_
            · (intro W hSw; (have l0 := hSw.1.at (k := 0) rfl); (have l1 := hSw.1.at (k := 1) rfl); (have l2 := hSw.1.at (k := 2) rfl); (have v0 := hSw.2.1.at (k := 0) rfl); (have v1 := hSw.2.1.at (k := 1) rfl); (have v2 := hSw.2.1.at (k := 2) rfl); (have v3 := hSw.2.1.at (k := 3) rfl); clear hSw; (have wk := HWK.out); go_simp; try (exact wrap_b8 _); try (with_reducible rfl))
            try simp only [Act.put, List.setIfInBounds_toArray, List.set_cons_zero, List.set_cons_succ]
            refine wpAnyH_take (oi := ⟨_, _, _, _, _, _⟩) (i := 4) (v := .int .u64 k) rfl (by kernel_rfl) (by kernel_rfl) (by kernel_rfl) (fun _ _ _ h => h) (Or.inl ⟨by rfl, ?_⟩) (by assumption) ?_
            · (intro W hSw; (have l0 := hSw.1.at (k := 0) rfl); (have l1 := hSw.1.at (k := 1) rfl); (have l2 := hSw.1.at (k := 2) rfl); (have v0 := hSw.2.1.at (k := 0) rfl); (have v1 := hSw.2.1.at (k := 1) rfl); (have v2 := hSw.2.1.at (k := 2) rfl); (have v3 := hSw.2.1.at (k := 3) rfl); clear hSw; (have wk := HWK.out); go_simp; try (exact wrap_b8 _); try (with_reducible rfl))
            try simp only [Act.put, List.setIfInBounds_toArray, List.set_cons_zero, List.set_cons_succ]
            refine wpAnyH_ready (rs := [5]) (by kernel_rfl) (by simp) ?_
            refine AllReadyH.cons (o := ⟨_, _, _, _, _, _⟩) rfl (fun K hK => ?_) ?_
            · go_simp
              go_at_call 22
              (with_reducible refine (PREP _).out.mono ?_)
              rintro e W1 ⟨pT, cT, rfl, hrT, hb⟩
              have HRT : Hid (Row w.heap.size 32 4 pT k cT (cellsV lk) W1) := hrT.mono hS.2.2.size
              replace hS := And.intro (hS.1.below hb hS.1.lt) (And.intro (hS.2.1.below hb hS.2.1.lt) (hS.2.2.trans (hb.mono hS.2.2.size)))
              replace HMB2 := hid (HMB2.out.below hb)
              replace HSB2 := hid (HSB2.out.below hb)
              clear hrT hb
              refine hK.out _ _ hS (fun _ => ?_)
              clear hK K
              try simp only [Act.put, List.setIfInBounds_toArray, List.set_cons_zero, List.set_cons_succ]
              refine wpAnyH_take (oi := ⟨_, _, _, _, _, _⟩) (i := 6) (v := .agg #[.int .i64 0, .int .i64 mn, .int .i64 (4 : Int), .bool true, .slice pT k cT]) rfl (by kernel_rfl) (by kernel_rfl) (by kernel_rfl) (fun _ _ _ h => h) (Or.inl ⟨by rfl, ?_⟩) (by assumption) ?_
              · (intro W hSw; (have l0 := hSw.1.at (k := 0) rfl); (have l1 := hSw.1.at (k := 1) rfl); (have l2 := hSw.1.at (k := 2) rfl); (have v0 := hSw.2.1.at (k := 0) rfl); (have v1 := hSw.2.1.at (k := 1) rfl); (have v2 := hSw.2.1.at (k := 2) rfl); (have v3 := hSw.2.1.at (k := 3) rfl); clear hSw; (have wk := HWK.out); go_simp; try (exact wrap_b8 _); try (with_reducible rfl))
              try simp only [Act.put, List.setIfInBounds_toArray, List.set_cons_zero, List.set_cons_succ]
              refine wpAnyH_ready (rs := [7]) (by kernel_rfl) (by simp) ?_
              refine AllReadyH.cons (o := ⟨_, _, _, _, _, _⟩) rfl (fun K hK => ?_) ?_
              · go_simp
                have hb := (Below.refl W1.heap.size W1).alloc (Nat.le_refl _) (.cells #[.int .i64 0, .int .i64 mn, .int .i64 (4 : Int), .bool true, .slice pT k cT] 54)
                have HTT : Hid (TabA w.heap.size W1.heap.size 0 mn (4 : Int) true pT k cT (cellsV lk) (W1.alloc (.cells #[.int .i64 0, .int .i64 mn, .int .i64 (4 : Int), .bool true, .slice pT k cT] 54))) := ⟨CA.new _ _ _, HRT.out.below hb⟩
                have HGT : Hid (w.heap.size ≤ W1.heap.size) := hS.2.2.size
                have HGTM : Hid (gm < W1.heap.size) := HMB2.out.box.lt
                have HGTV : Hid (w.heap.size + 1 < W1.heap.size) := hS.2.1.lt
                have HGTS : Hid (blk pA ≠ some W1.heap.size ∨ N1 = 0) := Sl.old HSB2.out (by decide)
                have HGTB : Hid (blk pB ≠ some W1.heap.size) := HMB2.out.row.old
                replace hS := And.intro (hS.1.below hb hS.1.lt) (And.intro (hS.2.1.below hb hS.2.1.lt) (hS.2.2.trans (hb.mono hS.2.2.size)))
                replace HMB2 := hid (HMB2.out.below hb)
                replace HSB2 := hid (HSB2.out.below hb)
                clear hb HRT
                generalize W1.alloc (.cells #[.int .i64 0, .int .i64 mn, .int .i64 (4 : Int), .bool true, .slice pT k cT] 54) = W2 at *
                generalize W1.heap.size = gt at *
                refine hK.out _ _ hS (fun _ => ?_)
                clear hK K
                try simp only [Act.put, List.setIfInBounds_toArray, List.set_cons_zero, List.set_cons_succ]
                refine wpAnyH_take (oi := ⟨_, _, _, _, _, _⟩) (i := 8) (v := .pointer (some ⟨gt, 0, none⟩)) rfl (by kernel_rfl) (by kernel_rfl) (by kernel_rfl) (fun _ _ _ h => h) (Or.inl ⟨by rfl, ?_⟩) (by assumption) ?_
                · (intro W hSw; (have l0 := hSw.1.at (k := 0) rfl); (have l1 := hSw.1.at (k := 1) rfl); (have l2 := hSw.1.at (k := 2) rfl); (have v0 := hSw.2.1.at (k := 0) rfl); (have v1 := hSw.2.1.at (k := 1) rfl); (have v2 := hSw.2.1.at (k := 2) rfl); (have v3 := hSw.2.1.at (k := 3) rfl); clear hSw; (have wk := HWK.out); go_simp; try (exact wrap_b8 _); try (with_reducible rfl))
                try simp only [Act.put, List.setIfInBounds_toArray, List.set_cons_zero, List.set_cons_succ]
                refine wpAnyH_done (by kernel_rfl) ?_ _
                have HF := hid hS
                clear hS
                go_upto_region 17 with fail
                have hS17 : CA w.heap.size #[.int .i64 mn, .int .i64 (4 : Int), .bool true] 23 W2.drew ∧ CA (w.heap.size + 1) #[.int .i64 x0, .int .u64 x1, .int .u64 x2, .bool x3] 32 W2.drew ∧ Below w.heap.size w W2.drew := ⟨HF.out.1, HF.out.2.1, ⟨HF.out.2.2.os, HF.out.2.2.tape, HF.out.2.2.output, HF.out.2.2.size, HF.out.2.2.block⟩⟩
                have HMB3 : Hid (MemA w.heap.size gm mn (4 : Int) true pB N1 cB (Lib.byteCells l1) W2.drew) := ⟨HMB2.out.box, HMB2.out.row.drew⟩
                have HSB3 : Hid (Sl 1 pA N1 cA (Lib.byteCells l1) W2.drew) := ⟨HSB2.out.src.drew, HSB2.out.cap, HSB2.out.big, HSB2.out.nil⟩
                have HTT3 : Hid (TabA w.heap.size gt 0 mn (4 : Int) true pT k cT (cellsV lk) W2.drew) := ⟨HTT.out.box, HTT.out.row.drew⟩
                refine wp_region_held_drew (S := fun W => CA w.heap.size #[.int .i64 mn, .int .i64 (4 : Int), .bool true] 23 W ∧ CA (w.heap.size + 1) #[.int .i64 x0, .int .u64 x1, .int .u64 x2, .bool x3] 32 W ∧ Below w.heap.size w W) (by kernel_rfl) hS17 (fun _ => ?_)
                have hS := hS17
                clear HF HMB2 HSB2 HTT hS17
                generalize W2.drew = W at *
                refine wpAnyH_take (oi := ⟨_, _, _, _, _, _⟩) (i := 0) (v := .agg #[.int .i64 5, .int .u64 0, .int .u64 0, .bool false]) rfl (by kernel_rfl) (by kernel_rfl) (by kernel_rfl) (fun _ _ _ h => h) (Or.inl ⟨by rfl, ?_⟩) (by assumption) ?_
                · (intro W hSw; (have l0 := hSw.1.at (k := 0) rfl); (have l1 := hSw.1.at (k := 1) rfl); (have l2 := hSw.1.at (k := 2) rfl); (have v0 := hSw.2.1.at (k := 0) rfl); (have v1 := hSw.2.1.at (k := 1) rfl); (have v2 := hSw.2.1.at (k := 2) rfl); (have v3 := hSw.2.1.at (k := 3) rfl); clear hSw; (have wk := HWK.out); go_simp; try (exact wrap_b8 _); try (with_reducible rfl))
                try simp only [Act.put, List.setIfInBounds_toArray, List.set_cons_zero, List.set_cons_succ]
                refine wpAnyH_take (oi := ⟨_, _, _, _, _, _⟩) (i := 1) (v := .int .i64 k) rfl (by kernel_rfl) (by kernel_rfl) (by kernel_rfl) (fun _ _ _ h => h) (Or.inl ⟨by rfl, ?_⟩) (by assumption) ?_
                · (intro W hSw; (have l0 := hSw.1.at (k := 0) rfl); (have l1 := hSw.1.at (k := 1) rfl); (have l2 := hSw.1.at (k := 2) rfl); (have v0 := hSw.2.1.at (k := 0) rfl); (have v1 := hSw.2.1.at (k := 1) rfl); (have v2 := hSw.2.1.at (k := 2) rfl); (have v3 := hSw.2.1.at (k := 3) rfl); clear hSw; (have wk := HWK.out); go_simp; try (exact wrap_b8 _); try (with_reducible rfl))
                try simp only [Act.put, List.setIfInBounds_toArray, List.set_cons_zero, List.set_cons_succ]
                refine wpAnyH_take (oi := ⟨_, _, _, _, _, _⟩) (i := 2) (v := .int .u64 k) rfl (by kernel_rfl) (by kernel_rfl) (by kernel_rfl) (fun _ _ _ h => h) (Or.inl ⟨by rfl, ?_⟩) (by assumption) ?_
                · (intro W hSw; (have l0 := hSw.1.at (k := 0) rfl); (have l1 := hSw.1.at (k := 1) rfl); (have l2 := hSw.1.at (k := 2) rfl); (have v0 := hSw.2.1.at (k := 0) rfl); (have v1 := hSw.2.1.at (k := 1) rfl); (have v2 := hSw.2.1.at (k := 2) rfl); (have v3 := hSw.2.1.at (k := 3) rfl); clear hSw; (have wk := HWK.out); go_simp; try (exact wrap_b8 _); try (with_reducible rfl))
                try simp only [Act.put, List.setIfInBounds_toArray, List.set_cons_zero, List.set_cons_succ]
                refine wpAnyH_take (oi := ⟨_, _, _, _, _, _⟩) (i := 4) (v := .agg #[.int .i64 mn, .int .i64 (4 : Int), .bool true]) rfl (by kernel_rfl) (by kernel_rfl) (by kernel_rfl) (fun _ _ _ h => h) (Or.inl ⟨by rfl, ?_⟩) (by assumption) ?_
                · (intro W hSw; (have l0 := hSw.1.at (k := 0) rfl); (have l1 := hSw.1.at (k := 1) rfl); (have l2 := hSw.1.at (k := 2) rfl); (have v0 := hSw.2.1.at (k := 0) rfl); (have v1 := hSw.2.1.at (k := 1) rfl); (have v2 := hSw.2.1.at (k := 2) rfl); (have v3 := hSw.2.1.at (k := 3) rfl); clear hSw; (have wk := HWK.out); go_simp; try (exact wrap_b8 _); try (with_reducible rfl))
                try simp only [Act.put, List.setIfInBounds_toArray, List.set_cons_zero, List.set_cons_succ]
                refine wpAnyH_take (oi := ⟨_, _, _, _, _, _⟩) (i := 5) (v := .int .u64 n) rfl (by kernel_rfl) (by kernel_rfl) (by kernel_rfl) (fun _ _ _ h => h) (Or.inl ⟨by rfl, ?_⟩) (by assumption) ?_
                · (intro W hSw; (have l0 := hSw.1.at (k := 0) rfl); (have l1 := hSw.1.at (k := 1) rfl); (have l2 := hSw.1.at (k := 2) rfl); (have v0 := hSw.2.1.at (k := 0) rfl); (have v1 := hSw.2.1.at (k := 1) rfl); (have v2 := hSw.2.1.at (k := 2) rfl); (have v3 := hSw.2.1.at (k := 3) rfl); clear hSw; (have wk := HWK.out); go_simp; try (exact wrap_b8 _); try (with_reducible rfl))
                try simp only [Act.put, List.setIfInBounds_toArray, List.set_cons_zero, List.set_cons_succ]
                refine wpAnyH_take (oi := ⟨_, _, _, _, _, _⟩) (i := 6) (v := .agg #[.int .i64 x0, .int .u64 x1, .int .u64 x2, .bool x3]) rfl (by kernel_rfl) (by kernel_rfl) (by kernel_rfl) (fun _ _ _ h => h) (Or.inl ⟨by rfl, ?_⟩) (by assumption) ?_
                · (intro W hSw; (have l0 := hSw.1.at (k := 0) rfl); (have l1 := hSw.1.at (k := 1) rfl); (have l2 := hSw.1.at (k := 2) rfl); (have v0 := hSw.2.1.at (k := 0) rfl); (have v1 := hSw.2.1.at (k := 1) rfl); (have v2 := hSw.2.1.at (k := 2) rfl); (have v3 := hSw.2.1.at (k := 3) rfl); clear hSw; (have wk := HWK.out); go_simp; try (exact wrap_b8 _); try (with_reducible rfl))
                try simp only [Act.put, List.setIfInBounds_toArray, List.set_cons_zero, List.set_cons_succ]
                refine wpAnyH_ready (rs := [3]) (by kernel_rfl) (by simp) ?_
                refine AllReadyH.cons (o := ⟨_, _, _, _, _, _⟩) rfl (fun K hK => ?_) ?_
                · go_simp
                  go_at_call 22
                  (with_reducible refine (PREP _).out.mono ?_)
                  rintro e W1 ⟨pU, cU, rfl, hrU, hb⟩
                  have HSU := hid hrU.sl
                  have HNU : Hid (blk pU ≠ some gt) := (by intro e; have h5 := hrU.blk_ge gt e; have h6 := HTT3.out.box.lt; omega)
                  replace hS := And.intro (hS.1.below hb hS.1.lt) (And.intro (hS.2.1.below hb hS.2.1.lt) (hS.2.2.trans (hb.mono hS.2.2.size)))
                  replace HMB3 := hid (HMB3.out.below hb)
                  replace HSB3 := hid (HSB3.out.below hb)
                  replace HTT3 := hid (HTT3.out.below hb)
                  clear hrU hb
                  refine hK.out _ _ hS (fun _ => ?_)
                  clear hK K
                  try simp only [Act.put, List.setIfInBounds_toArray, List.set_cons_zero, List.set_cons_succ]
                  refine wpAnyH_ready (rs := [7]) (by kernel_rfl) (by simp) ?_
                  refine AllReadyH.cons (o := ⟨_, _, _, _, _, _⟩) rfl (fun K hK => ?_) ?_
                  · go_simp
                    go_at_call 27
                    (with_reducible refine (PRT pU cU _ HSU.out).out.mono ?_)
                    rintro e W2 ⟨pV, cV, rfl, hsV, hb, hnV⟩
                    have HSV := hid hsV
                    have HNV : Hid (blk pV ≠ some gt) := hnV gt HTT3.out.box.lt HNU.out
                    replace hS := And.intro (hS.1.below hb hS.1.lt) (And.intro (hS.2.1.below hb hS.2.1.lt) (hS.2.2.trans (hb.mono hS.2.2.size)))
                    replace HMB3 := hid (HMB3.out.below hb)
                    replace HSB3 := hid (HSB3.out.below hb)
                    replace HTT3 := hid (HTT3.out.below hb)
                    clear hsV hb hnV HSU HNU
                    refine hK.out _ _ hS (fun _ => ?_)
                    clear hK K
                    try simp only [Act.put, List.setIfInBounds_toArray, List.set_cons_zero, List.set_cons_succ]
                    refine wpAnyH_take (oi := ⟨_, _, _, _, _, _⟩) (i := 8) (v := .tuple #[.slice pV N2 cV, .int .i64 E2]) rfl (by kernel_rfl) (by kernel_rfl) (by kernel_rfl) (fun _ _ _ h => h) (Or.inl ⟨by rfl, ?_⟩) (by assumption) ?_
                    · (intro W hSw; (have l0 := hSw.1.at (k := 0) rfl); (have l1 := hSw.1.at (k := 1) rfl); (have l2 := hSw.1.at (k := 2) rfl); (have v0 := hSw.2.1.at (k := 0) rfl); (have v1 := hSw.2.1.at (k := 1) rfl); (have v2 := hSw.2.1.at (k := 2) rfl); (have v3 := hSw.2.1.at (k := 3) rfl); clear hSw; (have wk := HWK.out); go_simp; try (exact wrap_b8 _); try (with_reducible rfl))
                    try simp only [Act.put, List.setIfInBounds_toArray, List.set_cons_zero, List.set_cons_succ]
                    refine wpAnyH_take (oi := ⟨_, _, _, _, _, _⟩) (i := 9) (v := .slice pV N2 cV) rfl (by kernel_rfl) (by kernel_rfl) (by kernel_rfl) (fun _ _ _ h => h) (Or.inl ⟨by rfl, ?_⟩) (by assumption) ?_
                    · (intro W hSw; (have l0 := hSw.1.at (k := 0) rfl); (have l1 := hSw.1.at (k := 1) rfl); (have l2 := hSw.1.at (k := 2) rfl); (have v0 := hSw.2.1.at (k := 0) rfl); (have v1 := hSw.2.1.at (k := 1) rfl); (have v2 := hSw.2.1.at (k := 2) rfl); (have v3 := hSw.2.1.at (k := 3) rfl); clear hSw; (have wk := HWK.out); go_simp; try (exact wrap_b8 _); try (with_reducible rfl))
                    try simp only [Act.put, List.setIfInBounds_toArray, List.set_cons_zero, List.set_cons_succ]
                    refine wpAnyH_take (oi := ⟨_, _, _, _, _, _⟩) (i := 10) (v := .int .i64 E2) rfl (by kernel_rfl) (by kernel_rfl) (by kernel_rfl) (fun _ _ _ h => h) (Or.inl ⟨by rfl, ?_⟩) (by assumption) ?_
                    · (intro W hSw; (have l0 := hSw.1.at (k := 0) rfl); (have l1 := hSw.1.at (k := 1) rfl); (have l2 := hSw.1.at (k := 2) rfl); (have v0 := hSw.2.1.at (k := 0) rfl); (have v1 := hSw.2.1.at (k := 1) rfl); (have v2 := hSw.2.1.at (k := 2) rfl); (have v3 := hSw.2.1.at (k := 3) rfl); clear hSw; (have wk := HWK.out); go_simp; try (exact wrap_b8 _); try (with_reducible rfl))
                    try simp only [Act.put, List.setIfInBounds_toArray, List.set_cons_zero, List.set_cons_succ]
                    refine wpAnyH_take (oi := ⟨_, _, _, _, _, _⟩) (i := 11) (v := .slice pV N2 cV) rfl (by kernel_rfl) (by kernel_rfl) (by kernel_rfl) (fun _ _ _ h => h) (Or.inl ⟨by rfl, ?_⟩) (by assumption) ?_
                    · (intro W hSw; (have l0 := hSw.1.at (k := 0) rfl); (have l1 := hSw.1.at (k := 1) rfl); (have l2 := hSw.1.at (k := 2) rfl); (have v0 := hSw.2.1.at (k := 0) rfl); (have v1 := hSw.2.1.at (k := 1) rfl); (have v2 := hSw.2.1.at (k := 2) rfl); (have v3 := hSw.2.1.at (k := 3) rfl); clear hSw; (have wk := HWK.out); go_simp; try (exact wrap_b8 _); try (with_reducible rfl))
                    try simp only [Act.put, List.setIfInBounds_toArray, List.set_cons_zero, List.set_cons_succ]
                    refine wpAnyH_take (oi := ⟨_, _, _, _, _, _⟩) (i := 12) (v := .int .i64 E2) rfl (by kernel_rfl) (by kernel_rfl) (by kernel_rfl) (fun _ _ _ h => h) (Or.inl ⟨by rfl, ?_⟩) (by assumption) ?_
                    · (intro W hSw; (have l0 := hSw.1.at (k := 0) rfl); (have l1 := hSw.1.at (k := 1) rfl); (have l2 := hSw.1.at (k := 2) rfl); (have v0 := hSw.2.1.at (k := 0) rfl); (have v1 := hSw.2.1.at (k := 1) rfl); (have v2 := hSw.2.1.at (k := 2) rfl); (have v3 := hSw.2.1.at (k := 3) rfl); clear hSw; (have wk := HWK.out); go_simp; try (exact wrap_b8 _); try (with_reducible rfl))
                    try simp only [Act.put, List.setIfInBounds_toArray, List.set_cons_zero, List.set_cons_succ]
                    refine wpAnyH_done (by kernel_rfl) ?_ _
                    have HF17 := hid hS
                    clear hS
                    have v0 := HF17.out.2.1.at (k := 0) (v := .int .i64 x0) rfl
                    have v1 := HF17.out.2.1.at (k := 1) (v := .int .u64 x1) rfl
                    have v2 := HF17.out.2.1.at (k := 2) (v := .int .u64 x2) rfl
                    have v3 := HF17.out.2.1.at (k := 3) (v := .bool x3) rfl
                    go_upto_region 19 with (go_at_call 26; (with_reducible refine (PGT pT cT gt W2 HTT3.out HF17.out.2.2.size).out.mono ?_); rintro e wX ⟨pX, cX, rfl, htX, hkX, hnX⟩; have HTX := hid htX; have HMX : Hid (MemA w.heap.size gm mn (4 : Int) true pB N1 cB (Lib.byteCells l1) wX) := ⟨HMB3.out.box.keep hkX (by intro e; cases e; have := HGTM.out; omega), HMB3.out.row.keep hkX (by rintro g o rfl e; cases e; exact HGTB.out rfl)⟩; have HSX := hid (HSB3.out.keepO hkX HGTS.out); have HVX := hid (HSV.out.keepO hkX (.inl HNV.out)); have HBX := hid (HF17.out.2.2.trans (hkX.below HF17.out.2.2.size (by rintro _ ⟨⟩; exact HGT.out))); clear htX hkX hnX)
                    have hS19 : Below w.heap.size w wX.drew ∧ MemA w.heap.size gm mn (4 : Int) true pB N1 cB (Lib.byteCells l1) wX.drew ∧ Sl 1 pA N1 cA (Lib.byteCells l1) wX.drew ∧ TabA w.heap.size gt 0 mn (4 : Int) true pX N2 cX (cellsV t2) wX.drew ∧ Sl 4 pV N2 cV (cellsV t2) wX.drew := ⟨⟨HBX.out.os, HBX.out.tape, HBX.out.output, HBX.out.size, HBX.out.block⟩, ⟨HMX.out.box, HMX.out.row.drew⟩, ⟨HSX.out.src.drew, HSX.out.cap, HSX.out.big, HSX.out.nil⟩, ⟨HTX.out.box, HTX.out.row.drew⟩, ⟨HVX.out.src.drew, HVX.out.cap, HVX.out.big, HVX.out.nil⟩⟩
                    refine wp_region_held_drew (S := fun W => Below w.heap.size w W ∧ MemA w.heap.size gm mn (4 : Int) true pB N1 cB (Lib.byteCells l1) W ∧ Sl 1 pA N1 cA (Lib.byteCells l1) W ∧ TabA w.heap.size gt 0 mn (4 : Int) true pX N2 cX (cellsV t2) W ∧ Sl 4 pV N2 cV (cellsV t2) W) (by kernel_rfl) hS19 (fun _ => ?_)
                    clear HF17 HMB3 HSB3 HTT3 HTX HMX HSX HVX HBX v0 v1 v2 v3
                    have hS := hS19
                    clear hS19
                    generalize wX.drew = W at *
                    refine wpAnyH_take (oi := ⟨_, _, _, _, _, _⟩) (i := 0) (v := .int .i64 E) rfl (by kernel_rfl) (by kernel_rfl) (by kernel_rfl) (fun _ _ _ h => h) (Or.inl ⟨by rfl, ?_⟩) (by assumption) ?_
                    · (intro W hSw; (have y3 := hSw.2.1.box.at (k := 3) rfl); (have y4 := hSw.2.2.2.1.box.at (k := 4) rfl); (have cv1 := conv_bytes (c := cB) hSw.2.1.row.src); (have cv2 := conv_bytes (c := cA) hSw.2.2.1.src); clear hSw; go_simp; try (exact wrap_b8 _); try (with_reducible rfl))
                    try simp only [Act.put, List.setIfInBounds_toArray, List.set_cons_zero, List.set_cons_succ]
                    refine wpAnyH_take (oi := ⟨_, _, _, _, _, _⟩) (i := 1) (v := .int .i64 E) rfl (by kernel_rfl) (by kernel_rfl) (by kernel_rfl) (fun _ _ _ h => h) (Or.inl ⟨by rfl, ?_⟩) (by assumption) ?_
                    · (intro W hSw; (have y3 := hSw.2.1.box.at (k := 3) rfl); (have y4 := hSw.2.2.2.1.box.at (k := 4) rfl); (have cv1 := conv_bytes (c := cB) hSw.2.1.row.src); (have cv2 := conv_bytes (c := cA) hSw.2.2.1.src); clear hSw; go_simp; try (exact wrap_b8 _); try (with_reducible rfl))
                    try simp only [Act.put, List.setIfInBounds_toArray, List.set_cons_zero, List.set_cons_succ]
                    refine wpAnyH_take (oi := ⟨_, _, _, _, _, _⟩) (i := 2) (v := .bool true) rfl (by kernel_rfl) (by kernel_rfl) (by kernel_rfl) (fun _ _ _ h => h) (Or.inl ⟨by rfl, ?_⟩) (by assumption) ?_
                    · (intro W hSw; (have y3 := hSw.2.1.box.at (k := 3) rfl); (have y4 := hSw.2.2.2.1.box.at (k := 4) rfl); (have cv1 := conv_bytes (c := cB) hSw.2.1.row.src); (have cv2 := conv_bytes (c := cA) hSw.2.2.1.src); clear hSw; go_simp; try (exact wrap_b8 _); try (with_reducible rfl))
                    try simp only [Act.put, List.setIfInBounds_toArray, List.set_cons_zero, List.set_cons_succ]
                    refine wpAnyH_take (oi := ⟨_, _, _, _, _, _⟩) (i := 3) (v := .bool true) rfl (by kernel_rfl) (by kernel_rfl) (by kernel_rfl) (fun _ _ _ h => h) (Or.inl ⟨by rfl, ?_⟩) (by assumption) ?_
                    · (intro W hSw; (have y3 := hSw.2.1.box.at (k := 3) rfl); (have y4 := hSw.2.2.2.1.box.at (k := 4) rfl); (have cv1 := conv_bytes (c := cB) hSw.2.1.row.src); (have cv2 := conv_bytes (c := cA) hSw.2.2.1.src); clear hSw; go_simp; try (exact wrap_b8 _); try (with_reducible rfl))
                    try simp only [Act.put, List.setIfInBounds_toArray, List.set_cons_zero, List.set_cons_succ]
                    refine wpAnyH_take (oi := ⟨_, _, _, _, _, _⟩) (i := 4) (v := .pointer (some ⟨gm, 0, none⟩)) rfl (by kernel_rfl) (by kernel_rfl) (by kernel_rfl) (fun _ _ _ h => h) (Or.inl ⟨by rfl, ?_⟩) (by assumption) ?_
                    · (intro W hSw; (have y3 := hSw.2.1.box.at (k := 3) rfl); (have y4 := hSw.2.2.2.1.box.at (k := 4) rfl); (have cv1 := conv_bytes (c := cB) hSw.2.1.row.src); (have cv2 := conv_bytes (c := cA) hSw.2.2.1.src); clear hSw; go_simp; try (exact wrap_b8 _); try (with_reducible rfl))
                    try simp only [Act.put, List.setIfInBounds_toArray, List.set_cons_zero, List.set_cons_succ]
                    refine wpAnyH_take (oi := ⟨_, _, _, _, _, _⟩) (i := 5) (v := .pointer (some ⟨gm, 0, none⟩)) rfl (by kernel_rfl) (by kernel_rfl) (by kernel_rfl) (fun _ _ _ h => h) (Or.inl ⟨by rfl, ?_⟩) (by assumption) ?_
                    · (intro W hSw; (have y3 := hSw.2.1.box.at (k := 3) rfl); (have y4 := hSw.2.2.2.1.box.at (k := 4) rfl); (have cv1 := conv_bytes (c := cB) hSw.2.1.row.src); (have cv2 := conv_bytes (c := cA) hSw.2.2.1.src); clear hSw; go_simp; try (exact wrap_b8 _); try (with_reducible rfl))
                    try simp only [Act.put, List.setIfInBounds_toArray, List.set_cons_zero, List.set_cons_succ]
                    refine wpAnyH_take (oi := ⟨_, _, _, _, _, _⟩) (i := 6) (v := .pointer (some ⟨gm, 3, none⟩)) rfl (by kernel_rfl) (by kernel_rfl) (by kernel_rfl) (fun _ _ _ h => h) (Or.inl ⟨by rfl, ?_⟩) (by assumption) ?_
                    · (intro W hSw; (have y3 := hSw.2.1.box.at (k := 3) rfl); (have y4 := hSw.2.2.2.1.box.at (k := 4) rfl); (have cv1 := conv_bytes (c := cB) hSw.2.1.row.src); (have cv2 := conv_bytes (c := cA) hSw.2.2.1.src); clear hSw; go_simp; try (exact wrap_b8 _); try (with_reducible rfl))
                    try simp only [Act.put, List.setIfInBounds_toArray, List.set_cons_zero, List.set_cons_succ]
                    refine wpAnyH_take (oi := ⟨_, _, _, _, _, _⟩) (i := 7) (v := .slice pB N1 cB) rfl (by kernel_rfl) (by kernel_rfl) (by kernel_rfl) (fun _ _ _ h => h) (Or.inl ⟨by rfl, ?_⟩) (by assumption) ?_
                    · (intro W hSw; (have y3 := hSw.2.1.box.at (k := 3) rfl); (have y4 := hSw.2.2.2.1.box.at (k := 4) rfl); (have cv1 := conv_bytes (c := cB) hSw.2.1.row.src); (have cv2 := conv_bytes (c := cA) hSw.2.2.1.src); clear hSw; go_simp; try (exact wrap_b8 _); try (with_reducible rfl))
                    try simp only [Act.put, List.setIfInBounds_toArray, List.set_cons_zero, List.set_cons_succ]
                    refine wpAnyH_take (oi := ⟨_, _, _, _, _, _⟩) (i := 8) (v := .string ⟨l1.toArray⟩) rfl (by kernel_rfl) (by kernel_rfl) (by kernel_rfl) (fun _ _ _ h => h) (Or.inl ⟨by rfl, ?_⟩) (by assumption) ?_
                    · (intro W hSw; (have y3 := hSw.2.1.box.at (k := 3) rfl); (have y4 := hSw.2.2.2.1.box.at (k := 4) rfl); (have cv1 := conv_bytes (c := cB) hSw.2.1.row.src); (have cv2 := conv_bytes (c := cA) hSw.2.2.1.src); clear hSw; go_simp; try (exact wrap_b8 _); try (with_reducible rfl))
                    try simp only [Act.put, List.setIfInBounds_toArray, List.set_cons_zero, List.set_cons_succ]
                    refine wpAnyH_take (oi := ⟨_, _, _, _, _, _⟩) (i := 9) (v := .slice pA N1 cA) rfl (by kernel_rfl) (by kernel_rfl) (by kernel_rfl) (fun _ _ _ h => h) (Or.inl ⟨by rfl, ?_⟩) (by assumption) ?_
                    · (intro W hSw; (have y3 := hSw.2.1.box.at (k := 3) rfl); (have y4 := hSw.2.2.2.1.box.at (k := 4) rfl); (have cv1 := conv_bytes (c := cB) hSw.2.1.row.src); (have cv2 := conv_bytes (c := cA) hSw.2.2.1.src); clear hSw; go_simp; try (exact wrap_b8 _); try (with_reducible rfl))
                    try simp only [Act.put, List.setIfInBounds_toArray, List.set_cons_zero, List.set_cons_succ]
                    refine wpAnyH_take (oi := ⟨_, _, _, _, _, _⟩) (i := 10) (v := .string ⟨l1.toArray⟩) rfl (by kernel_rfl) (by kernel_rfl) (by kernel_rfl) (fun _ _ _ h => h) (Or.inl ⟨by rfl, ?_⟩) (by assumption) ?_
                    · (intro W hSw; (have y3 := hSw.2.1.box.at (k := 3) rfl); (have y4 := hSw.2.2.2.1.box.at (k := 4) rfl); (have cv1 := conv_bytes (c := cB) hSw.2.1.row.src); (have cv2 := conv_bytes (c := cA) hSw.2.2.1.src); clear hSw; go_simp; try (exact wrap_b8 _); try (with_reducible rfl))
                    try simp only [Act.put, List.setIfInBounds_toArray, List.set_cons_zero, List.set_cons_succ]
                    refine wpAnyH_take (oi := ⟨_, _, _, _, _, _⟩) (i := 11) (v := .bool true) rfl (by kernel_rfl) (by kernel_rfl) (by kernel_rfl) (fun _ _ _ h => h) (Or.inl ⟨by rfl, ?_⟩) (by assumption) ?_
                    · (intro W hSw; (have y3 := hSw.2.1.box.at (k := 3) rfl); (have y4 := hSw.2.2.2.1.box.at (k := 4) rfl); (have cv1 := conv_bytes (c := cB) hSw.2.1.row.src); (have cv2 := conv_bytes (c := cA) hSw.2.2.1.src); clear hSw; go_simp; try (exact wrap_b8 _); try (with_reducible rfl))
                    try simp only [Act.put, List.setIfInBounds_toArray, List.set_cons_zero, List.set_cons_succ]
                    refine wpAnyH_take (oi := ⟨_, _, _, _, _, _⟩) (i := 12) (v := .bool true) rfl (by kernel_rfl) (by kernel_rfl) (by kernel_rfl) (fun _ _ _ h => h) (Or.inl ⟨by rfl, ?_⟩) (by assumption) ?_
                    · (intro W hSw; (have y3 := hSw.2.1.box.at (k := 3) rfl); (have y4 := hSw.2.2.2.1.box.at (k := 4) rfl); (have cv1 := conv_bytes (c := cB) hSw.2.1.row.src); (have cv2 := conv_bytes (c := cA) hSw.2.2.1.src); clear hSw; go_simp; try (exact wrap_b8 _); try (with_reducible rfl))
                    try simp only [Act.put, List.setIfInBounds_toArray, List.set_cons_zero, List.set_cons_succ]
                    refine wpAnyH_take (oi := ⟨_, _, _, _, _, _⟩) (i := 13) (v := .bool true) rfl (by kernel_rfl) (by kernel_rfl) (by kernel_rfl) (fun _ _ _ h => h) (Or.inl ⟨by rfl, ?_⟩) (by assumption) ?_
                    · (intro W hSw; (have y3 := hSw.2.1.box.at (k := 3) rfl); (have y4 := hSw.2.2.2.1.box.at (k := 4) rfl); (have cv1 := conv_bytes (c := cB) hSw.2.1.row.src); (have cv2 := conv_bytes (c := cA) hSw.2.2.1.src); clear hSw; go_simp; try (exact wrap_b8 _); try (with_reducible rfl))
                    try simp only [Act.put, List.setIfInBounds_toArray, List.set_cons_zero, List.set_cons_succ]
                    refine wpAnyH_take (oi := ⟨_, _, _, _, _, _⟩) (i := 14) (v := .int .i64 E2) rfl (by kernel_rfl) (by kernel_rfl) (by kernel_rfl) (fun _ _ _ h => h) (Or.inl ⟨by rfl, ?_⟩) (by assumption) ?_
                    · (intro W hSw; (have y3 := hSw.2.1.box.at (k := 3) rfl); (have y4 := hSw.2.2.2.1.box.at (k := 4) rfl); (have cv1 := conv_bytes (c := cB) hSw.2.1.row.src); (have cv2 := conv_bytes (c := cA) hSw.2.2.1.src); clear hSw; go_simp; try (exact wrap_b8 _); try (with_reducible rfl))
                    try simp only [Act.put, List.setIfInBounds_toArray, List.set_cons_zero, List.set_cons_succ]
                    refine wpAnyH_take (oi := ⟨_, _, _, _, _, _⟩) (i := 15) (v := .int .i64 E2) rfl (by kernel_rfl) (by kernel_rfl) (by kernel_rfl) (fun _ _ _ h => h) (Or.inl ⟨by rfl, ?_⟩) (by assumption) ?_
                    · (intro W hSw; (have y3 := hSw.2.1.box.at (k := 3) rfl); (have y4 := hSw.2.2.2.1.box.at (k := 4) rfl); (have cv1 := conv_bytes (c := cB) hSw.2.1.row.src); (have cv2 := conv_bytes (c := cA) hSw.2.2.1.src); clear hSw; go_simp; try (exact wrap_b8 _); try (with_reducible rfl))
                    try simp only [Act.put, List.setIfInBounds_toArray, List.set_cons_zero, List.set_cons_succ]
                    refine wpAnyH_take (oi := ⟨_, _, _, _, _, _⟩) (i := 16) (v := .bool true) rfl (by kernel_rfl) (by kernel_rfl) (by kernel_rfl) (fun _ _ _ h => h) (Or.inl ⟨by rfl, ?_⟩) (by assumption) ?_
                    · (intro W hSw; (have y3 := hSw.2.1.box.at (k := 3) rfl); (have y4 := hSw.2.2.2.1.box.at (k := 4) rfl); (have cv1 := conv_bytes (c := cB) hSw.2.1.row.src); (have cv2 := conv_bytes (c := cA) hSw.2.2.1.src); clear hSw; go_simp; try (exact wrap_b8 _); try (with_reducible rfl))
                    try simp only [Act.put, List.setIfInBounds_toArray, List.set_cons_zero, List.set_cons_succ]
                    refine wpAnyH_take (oi := ⟨_, _, _, _, _, _⟩) (i := 17) (v := .bool true) rfl (by kernel_rfl) (by kernel_rfl) (by kernel_rfl) (fun _ _ _ h => h) (Or.inl ⟨by rfl, ?_⟩) (by assumption) ?_
                    · (intro W hSw; (have y3 := hSw.2.1.box.at (k := 3) rfl); (have y4 := hSw.2.2.2.1.box.at (k := 4) rfl); (have cv1 := conv_bytes (c := cB) hSw.2.1.row.src); (have cv2 := conv_bytes (c := cA) hSw.2.2.1.src); clear hSw; go_simp; try (exact wrap_b8 _); try (with_reducible rfl))
                    try simp only [Act.put, List.setIfInBounds_toArray, List.set_cons_zero, List.set_cons_succ]
                    refine wpAnyH_take (oi := ⟨_, _, _, _, _, _⟩) (i := 18) (v := .bool true) rfl (by kernel_rfl) (by kernel_rfl) (by kernel_rfl) (fun _ _ _ h => h) (Or.inl ⟨by rfl, ?_⟩) (by assumption) ?_
                    · (intro W hSw; (have y3 := hSw.2.1.box.at (k := 3) rfl); (have y4 := hSw.2.2.2.1.box.at (k := 4) rfl); (have cv1 := conv_bytes (c := cB) hSw.2.1.row.src); (have cv2 := conv_bytes (c := cA) hSw.2.2.1.src); clear hSw; go_simp; try (exact wrap_b8 _); try (with_reducible rfl))
                    try simp only [Act.put, List.setIfInBounds_toArray, List.set_cons_zero, List.set_cons_succ]
                    refine wpAnyH_take (oi := ⟨_, _, _, _, _, _⟩) (i := 19) (v := .pointer (some ⟨gt, 0, none⟩)) rfl (by kernel_rfl) (by kernel_rfl) (by kernel_rfl) (fun _ _ _ h => h) (Or.inl ⟨by rfl, ?_⟩) (by assumption) ?_
                    · (intro W hSw; (have y3 := hSw.2.1.box.at (k := 3) rfl); (have y4 := hSw.2.2.2.1.box.at (k := 4) rfl); (have cv1 := conv_bytes (c := cB) hSw.2.1.row.src); (have cv2 := conv_bytes (c := cA) hSw.2.2.1.src); clear hSw; go_simp; try (exact wrap_b8 _); try (with_reducible rfl))
                    try simp only [Act.put, List.setIfInBounds_toArray, List.set_cons_zero, List.set_cons_succ]
                    refine wpAnyH_take (oi := ⟨_, _, _, _, _, _⟩) (i := 20) (v := .pointer (some ⟨gt, 0, none⟩)) rfl (by kernel_rfl) (by kernel_rfl) (by kernel_rfl) (fun _ _ _ h => h) (Or.inl ⟨by rfl, ?_⟩) (by assumption) ?_
                    · (intro W hSw; (have y3 := hSw.2.1.box.at (k := 3) rfl); (have y4 := hSw.2.2.2.1.box.at (k := 4) rfl); (have cv1 := conv_bytes (c := cB) hSw.2.1.row.src); (have cv2 := conv_bytes (c := cA) hSw.2.2.1.src); clear hSw; go_simp; try (exact wrap_b8 _); try (with_reducible rfl))
                    try simp only [Act.put, List.setIfInBounds_toArray, List.set_cons_zero, List.set_cons_succ]
                    refine wpAnyH_take (oi := ⟨_, _, _, _, _, _⟩) (i := 21) (v := .pointer (some ⟨gt, 4, none⟩)) rfl (by kernel_rfl) (by kernel_rfl) (by kernel_rfl) (fun _ _ _ h => h) (Or.inl ⟨by rfl, ?_⟩) (by assumption) ?_
                    · (intro W hSw; (have y3 := hSw.2.1.box.at (k := 3) rfl); (have y4 := hSw.2.2.2.1.box.at (k := 4) rfl); (have cv1 := conv_bytes (c := cB) hSw.2.1.row.src); (have cv2 := conv_bytes (c := cA) hSw.2.2.1.src); clear hSw; go_simp; try (exact wrap_b8 _); try (with_reducible rfl))
                    try simp only [Act.put, List.setIfInBounds_toArray, List.set_cons_zero, List.set_cons_succ]
                    refine wpAnyH_take (oi := ⟨_, _, _, _, _, _⟩) (i := 22) (v := .slice pX N2 cX) rfl (by kernel_rfl) (by kernel_rfl) (by kernel_rfl) (fun _ _ _ h => h) (Or.inl ⟨by rfl, ?_⟩) (by assumption) ?_
                    · (intro W hSw; (have y3 := hSw.2.1.box.at (k := 3) rfl); (have y4 := hSw.2.2.2.1.box.at (k := 4) rfl); (have cv1 := conv_bytes (c := cB) hSw.2.1.row.src); (have cv2 := conv_bytes (c := cA) hSw.2.2.1.src); clear hSw; go_simp; try (exact wrap_b8 _); try (with_reducible rfl))
                    try simp only [Act.put, List.setIfInBounds_toArray, List.set_cons_zero, List.set_cons_succ]
                    refine wpAnyH_take (oi := ⟨_, _, _, _, _, _⟩) (i := 23) (v := .slice pV N2 cV) rfl (by kernel_rfl) (by kernel_rfl) (by kernel_rfl) (fun _ _ _ h => h) (Or.inl ⟨by rfl, ?_⟩) (by assumption) ?_
                    · (intro W hSw; (have y3 := hSw.2.1.box.at (k := 3) rfl); (have y4 := hSw.2.2.2.1.box.at (k := 4) rfl); (have cv1 := conv_bytes (c := cB) hSw.2.1.row.src); (have cv2 := conv_bytes (c := cA) hSw.2.2.1.src); clear hSw; go_simp; try (exact wrap_b8 _); try (with_reducible rfl))
                    try simp only [Act.put, List.setIfInBounds_toArray, List.set_cons_zero, List.set_cons_succ]
                    refine wpAnyH_ready (rs := [24]) (by kernel_rfl) (by simp) ?_
                    refine AllReadyH.cons (o := ⟨_, _, _, _, _, _⟩) rfl (fun K hK => ?_) ?_
                    · go_simp
                      go_at_call 28
                      (with_reducible refine (same_says pX pV N2 cX cV t2 _ hS.2.2.2.1.row.sl hS.2.2.2.2).mono ?_)
                      rintro e W1 ⟨rfl, hb⟩
                      replace hS := And.intro (hS.1.trans (hb.mono hS.1.size)) (And.intro (hS.2.1.below hb) (And.intro (hS.2.2.1.below hb) (And.intro (hS.2.2.2.1.below hb) (hS.2.2.2.2.below hb))))
                      clear hb
                      refine hK.out _ _ hS (fun _ => ?_)
                      clear hK K
                      try simp only [Act.put, List.setIfInBounds_toArray, List.set_cons_zero, List.set_cons_succ]
                      refine wpAnyH_take (oi := ⟨_, _, _, _, _, _⟩) (i := 25) (v := .bool true) rfl (by kernel_rfl) (by kernel_rfl) (by kernel_rfl) (fun _ _ _ h => h) (Or.inl ⟨by rfl, ?_⟩) (by assumption) ?_
                      · (intro W hSw; (have y3 := hSw.2.1.box.at (k := 3) rfl); (have y4 := hSw.2.2.2.1.box.at (k := 4) rfl); (have cv1 := conv_bytes (c := cB) hSw.2.1.row.src); (have cv2 := conv_bytes (c := cA) hSw.2.2.1.src); clear hSw; go_simp; try (exact wrap_b8 _); try (with_reducible rfl))
                      try simp only [Act.put, List.setIfInBounds_toArray, List.set_cons_zero, List.set_cons_succ]
                      refine wpAnyH_take (oi := ⟨_, _, _, _, _, _⟩) (i := 26) (v := .bool true) rfl (by kernel_rfl) (by kernel_rfl) (by kernel_rfl) (fun _ _ _ h => h) (Or.inl ⟨by rfl, ?_⟩) (by assumption) ?_
                      · (intro W hSw; (have y3 := hSw.2.1.box.at (k := 3) rfl); (have y4 := hSw.2.2.2.1.box.at (k := 4) rfl); (have cv1 := conv_bytes (c := cB) hSw.2.1.row.src); (have cv2 := conv_bytes (c := cA) hSw.2.2.1.src); clear hSw; go_simp; try (exact wrap_b8 _); try (with_reducible rfl))
                      try simp only [Act.put, List.setIfInBounds_toArray, List.set_cons_zero, List.set_cons_succ]
                      refine wpAnyH_done (by kernel_rfl) ?_ _
                      have HF := hid hS.1
                      clear hS
                      go_wp2
                      go_ret
                      exact ⟨rfl, HF.out⟩
                    exact AllReadyH.nil
                  exact AllReadyH.nil
                exact AllReadyH.nil
              exact AllReadyH.nil
            exact AllReadyH.nil
      exact AllReadyH.nil
    exact AllReadyH.nil

end Go.Proofs.Ytlifnddofgeaaaa
