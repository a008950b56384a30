/-
  The walk of the law on what instructions take and leave: it answers true. Condition: the tables hold what their text lays.
-/
import Derived.Test.YtnechalhgdmgiaaDoorLawBase
set_option linter.unusedSimpArgs false
set_option linter.unusedVariables false
namespace Go.Proofs.YtnechalhgdmgiaaDoor
open Go.RowKit

/-- What the zeroing of two rows keeps. -/
def ZR (w : World) (gr : Nat) (r : Rw) (b1 b2 : Nat) (v1 v2 : Value) (n1 n2 : Nat) (wr : World) : Prop :=
  Below w.heap.size w wr ∧ RB gr r wr ∧ (∃ xs, wr.ownsRow b1 3 1 v1 n1 xs) ∧ (∃ ys, wr.ownsRow b2 3 1 v2 n2 ys)
theorem own_other {w : World} {base n : Nat} {e : TypeId} {v : Value} {xs : List Value} {p : Addr} {u : Value} (h : w.ownsRow base e 1 v n xs) (hne : ∀ k, v.ownBlock = some k → k ≠ p.block) : (w.setCell p u).ownsRow base e 1 v n xs := by
  refine ⟨h.1, ?_⟩
  rcases h.2 with h2 | ⟨g, cap, cur, hv, hg, hh, r⟩
  · exact Or.inl h2
  · subst hv
    exact Or.inr ⟨g, cap, cur, rfl, hg, by rw [Below.heap_setCell _ _ _ _ (hne g rfl)]; exact hh, r⟩
theorem RB.far {g : Nat} {r : Rw} {W : World} {p : Addr} {u : Value} (h : RB g r W) (hne : g ≠ p.block) : RB g r (W.setCell p u) := by
  unfold RB at h ⊢
  rw [Below.heap_setCell _ _ _ _ hne, h]

theorem same_true (va vb : Value) (a : List Int) (w : World) (hla : a.length ≤ 100) (ha : RowOf w va a) (hb : RowOf w vb a) : Calls Tryd.prog 14 #[va, vb] w fun e w' => e = .returned (.bool true) ∧ Below w.heap.size w w' := by
  have := same_says va vb a a w (by omega) ha hb
  rw [decide_eq_true rfl] at this
  exact this

set_option maxHeartbeats 4000000 in
set_option maxRecDepth 100000 in
theorem law_signs (op : Int) (w : World) (hg : Glob w) :
    Calls Tryd.prog 7 #[.int .i64 op] w fun e w' => e = .returned (.bool true) ∧ Below w.heap.size w w' := by
  have HG := hid hg
  clear hg
  obtain ⟨ro, nm, im, tk, lv, fx, hr⟩ : ∃ ro nm im tk lv fx, ofL op = (ro, nm, im, tk, lv, fx) := ⟨_, _, _, _, _, _, rfl⟩
  obtain ⟨_, _, _, hfx, hla, hlb, htk, hlv, _⟩ := agree_parts op hr
  have HOf := fun W => hid (Of_says op W)
  rw [hr] at HOf
  have HSg := fun W (hW : Glob W) => hid (Sign_any op W hW)
  rw [hfx] at HSg
  have HTk := fun W => hid (reftypes_says tk htk W)
  have HTl := fun W => hid (reftypes_says lv hlv W)
  rw [← hla] at HTk
  rw [← hlb] at HTl
  obtain ⟨la, hla2⟩ : ∃ la, la = laL op := ⟨_, rfl⟩
  obtain ⟨lb, hlb2⟩ : ∃ lb, lb = lbL op := ⟨_, rfl⟩
  have hll1 : la.length ≤ 100 := by rw [hla2, hla]; exact Nat.le_trans (ty_len tk) htk
  have hll2 : lb.length ≤ 100 := by rw [hlb2, hlb]; exact Nat.le_trans (ty_len lv) hlv
  rw [← hla2] at HSg HTk
  rw [← hlb2] at HSg HTl
  have HL1 := hid hll1
  have HL2 := hid hll2
  clear hr hfx hla hlb htk hlv hla2 hlb2 hll1 hll2
  rename_i q1 q2 q3 q4
  clear q1 q2 q3 q4
  have HSA := fun va vb a W h1 h2 h3 => hid (same_true va vb a W h1 h2 h3)
  go_enter Tryd.func7, Tryd.ntmps7
  go_wp2_with fail
  refine (awake_says _ HG.out).mono ?_
  rintro e w1 ⟨rfl, hb⟩
  have HB1 := hid hb
  have HG1 := hid (HG.out.next hb)
  clear hb
  go_upto_region 5 with (go_at_call 9; refine (HOf _).out.mono ?_; rintro e w3 ⟨rfl, hb⟩; unfold rwV)
  have HB3 := hid (HB1.out.trans (hb.mono HB1.out.size))
  have HG3 := hid (HG1.out.next hb)
  clear hb
  have HR4 : Hid (RB w3.heap.size (ro, nm, im, tk, lv, fx) (w3.alloc (.cells (rwCells (ro, nm, im, tk, lv, fx)) 24))) := RB.newr _ _
  have HB4 := hid (HB3.out.alloc HB3.out.size (.cells (rwCells (ro, nm, im, tk, lv, fx)) 24))
  have HG4 := hid (HG3.out.next ((Below.refl w3.heap.size w3).alloc (Nat.le_refl _) (.cells (rwCells (ro, nm, im, tk, lv, fx)) 24)))
  have HGE := hid HB3.out.size
  simp only [rwCells] at HR4 HB4 HG4
  generalize w3.alloc (.cells #[.int .i64 ro, .string (str nm), .int .i64 im, .string (str tk), .string (str lv), .bool fx] 24) = w4 at *
  generalize w3.heap.size = gr at *
  go_wp2_with fail
  refine (HSg _ HG4.out).out.mono ?_
  rintro e w5 ⟨v1, v2, B, rfl, ho1, ho2, hB, hsep, hb⟩
  have HO1 := hid ho1
  have HO2 := hid ho2
  have HBB := hid hB
  have HSEP := hid hsep
  have HB5 := hid (HB4.out.trans (hb.mono HB4.out.size))
  have HR5 := hid (HR4.out.call hb)
  have HA5 := hid (row_of ho1)
  have HD5 := hid (row_of ho2)
  have HBx5 := hid hb
  clear ho1 ho2 hB hsep hb
  obtain ⟨x0, x1, x2, x3, x4, x5⟩ := HR5.out.cells
  go_wp2_with fail
  refine (HTk _).out.mono ?_
  rintro e w6 ⟨vt, rfl, ho, hb⟩
  clear x0 x1 x2 x3 x4 x5
  have HT6 := hid (row_of ho)
  have HBy6 := hid (hb)
  have HB6 := hid (HB5.out.trans (hb.mono HB5.out.size))
  have HR6 := hid (HR5.out.call hb)
  have HA6 := hid (HA5.out.kept hb)
  have HD6 := hid (HD5.out.kept hb)
  clear ho hb
  go_wp2_with fail
  refine (HSA v1 vt la _ HL1.out HA6.out HT6.out).out.mono ?_
  rintro e w7 ⟨rfl, hb⟩
  have HBy7 := hid (HBy6.out.trans (hb.mono HBy6.out.size))
  have HB7 := hid (HB6.out.trans (hb.mono HB6.out.size))
  have HR7 := hid (HR6.out.call hb)
  have HA7 := hid (HA6.out.kept hb)
  have HD7 := hid (HD6.out.kept hb)
  clear hb
  obtain ⟨x0, x1, x2, x3, x4, x5⟩ := HR7.out.cells
  go_wp2_with fail
  refine (HTl _).out.mono ?_
  rintro e w8 ⟨vu, rfl, ho, hb⟩
  clear x0 x1 x2 x3 x4 x5
  have HT8 := hid (row_of ho)
  have HBy8 := hid (HBy7.out.trans (hb.mono HBy7.out.size))
  have HB8 := hid (HB7.out.trans (hb.mono HB7.out.size))
  have HR8 := hid (HR7.out.call hb)
  have HA8 := hid (HA7.out.kept hb)
  have HD8 := hid (HD7.out.kept hb)
  clear ho hb
  go_wp2_with fail
  refine (HSA v2 vu lb _ HL2.out HD8.out HT8.out).out.mono ?_
  rintro e w9 ⟨rfl, hb⟩
  have HBy9 := hid (HBy8.out.trans (hb.mono HBy8.out.size))
  have HB9 := hid (HB8.out.trans (hb.mono HB8.out.size))
  have HR9 := hid (HR8.out.call hb)
  have HA9 := hid (HA8.out.kept hb)
  have HD9 := hid (HD8.out.kept hb)
  clear hb
  obtain ⟨p1, cap1, rfl, _⟩ := HA9.out
  obtain ⟨p2, cap2, rfl, _⟩ := HD9.out
  rename_i r1 r2
  clear r1 r2
  obtain ⟨x0, x1, x2, x3, x4, x5⟩ := HR9.out.cells
  have HBy := hid (show Below w5.heap.size w5 w9 from HBy9.out)
  have HZ : Hid (ZR w gr (ro, nm, im, tk, lv, fx) w4.heap.size B (.slice p1 la.length cap1) (.slice p2 lb.length cap2) la.length lb.length w9) := ⟨HB9.out, HR9.out, ⟨_, own_below HO1.out HBy.out (Nat.le_refl _)⟩, ⟨_, own_below HO2.out HBy.out (Nat.le_refl _)⟩⟩
  go_wp2
  clear x0 x1 x2 x3 x4 x5
  go_loopw [9] (fun vi wr => ∃ n : Nat, Hid (n ≤ la.length) ∧ vi = .int .i64 n ∧ Hid (ZR w gr (ro, nm, im, tk, lv, fx) w4.heap.size B (.slice p1 la.length cap1) (.slice p2 lb.length cap2) la.length lb.length wr)) (fun vi _ => 101 - (intOf vi).toNat)
  case atStart => exact ⟨0, Nat.zero_le _, rfl, HZ.out⟩
  case round =>
    obtain ⟨n, hn, rfl, HZ2⟩ := hrel
    by_cases hlt : n < la.length
    · have hn1 := hid (show n + 1 ≤ la.length from hlt)
      have hll : la.length ≤ 100 := HL1.out
      obtain ⟨hb, hrb, ⟨xs, hx⟩, ⟨ys, hy⟩⟩ := HZ2.out
      have hxl := hx.1
      rcases hx.2 with ⟨_, h0⟩ | ⟨g, cap, cur, hv, hge, _, _, _, _, _⟩
      · omega
      simp only [Value.slice.injEq] at hv
      obtain ⟨rfl, _, rfl⟩ := hv
      rename_i r1 r2 r3 r4 r5 r6
      clear r1 r2 r3 r4 r5 r6
      obtain ⟨u, hu⟩ : ∃ u, xs[n]? = some u := ⟨_, List.getElem?_eq_getElem (by omega)⟩
      have hc : wr.cell? ⟨g, n, none⟩ = some u := by rw [hx.cellAt n (by omega), hu]
      have hf : wr.frozen? ⟨g, n, none⟩ = false := hx.frozenAt n
      have hZ3 : Hid (ZR w gr (ro, nm, im, tk, lv, fx) w4.heap.size B (.slice (some ⟨g, 0, none⟩) la.length cap1) (.slice p2 lb.length cap2) la.length lb.length (wr.setCell ⟨g, n, none⟩ (.int .i64 0))) := by
        refine ⟨hb.setCell (p := ⟨g, n, none⟩) (show w.heap.size ≤ g by have := HB4.out.size; omega) _, hrb.far (show gr ≠ g by have := HR4.out.lt; omega), ⟨_, (hx.stored n _).1⟩, ⟨ys, own_other hy (fun k hk => show k ≠ g by have := (hy.lt k hk).1; have := HSEP.out g rfl; omega)⟩⟩
      clear hb hrb hx hy hxl hu hge
      go_wp2
      go_roundw
      case rel => exact ⟨n + 1, hn1.out, by go_num, hZ3.out⟩
      case measure => (first | (simp [intOf]; done) | (simp [intOf]; omega))
    · obtain rfl : n = la.length := by have := hn.out; omega
      have HZ := HZ2
      clear HZ2
      go_wp2
      go_loopw [10] (fun vi wr => ∃ n : Nat, Hid (n ≤ lb.length) ∧ vi = .int .i64 n ∧ Hid (ZR w gr (ro, nm, im, tk, lv, fx) w4.heap.size B (.slice p1 la.length cap1) (.slice p2 lb.length cap2) la.length lb.length wr)) (fun vi _ => 101 - (intOf vi).toNat)
      case atStart => exact ⟨0, Nat.zero_le _, rfl, HZ.out⟩
      case round =>
        obtain ⟨n, hn, rfl, HZ2⟩ := hrel
        by_cases hlt : n < lb.length
        · have hn1 := hid (show n + 1 ≤ lb.length from hlt)
          have hll : lb.length ≤ 100 := HL2.out
          obtain ⟨hb, hrb, ⟨xs, hx⟩, ⟨ys, hy⟩⟩ := HZ2.out
          have hxl := hy.1
          rcases hy.2 with ⟨_, h0⟩ | ⟨g, cap, cur, hv, hge, _, _, _, _, _⟩
          · omega
          simp only [Value.slice.injEq] at hv
          obtain ⟨rfl, _, rfl⟩ := hv
          rename_i r1 r2 r3 r4 r5 r6
          clear r1 r2 r3 r4 r5 r6
          obtain ⟨u, hu⟩ : ∃ u, ys[n]? = some u := ⟨_, List.getElem?_eq_getElem (by omega)⟩
          have hc : wr.cell? ⟨g, n, none⟩ = some u := by rw [hy.cellAt n (by omega), hu]
          have hf : wr.frozen? ⟨g, n, none⟩ = false := hy.frozenAt n
          have hZ3 : Hid (ZR w gr (ro, nm, im, tk, lv, fx) w4.heap.size B (.slice p1 la.length cap1) (.slice (some ⟨g, 0, none⟩) lb.length cap2) la.length lb.length (wr.setCell ⟨g, n, none⟩ (.int .i64 0))) := by
            refine ⟨hb.setCell (p := ⟨g, n, none⟩) (show w.heap.size ≤ g by have := HB4.out.size; have := HBB.out; omega) _, hrb.far (show gr ≠ g by have := HR4.out.lt; have := HBB.out; omega), ⟨xs, own_other hx (fun k hk => show k ≠ g by have := HSEP.out k hk; omega)⟩, ⟨_, (hy.stored n _).1⟩⟩
          clear hb hrb hx hy hxl hu hge
          go_wp2
          go_roundw
          case rel => exact ⟨n + 1, hn1.out, by go_num, hZ3.out⟩
          case measure => (first | (simp [intOf]; done) | (simp [intOf]; omega))
        · obtain rfl : n = lb.length := by have := hn.out; omega
          have HB10 := hid HZ2.out.1
          have HR10 := hid HZ2.out.2.1
          have HG10 := hid (HG.out.next HB10.out)
          go_wp2_with fail
          refine (HSg _ HG10.out).out.mono ?_
          rintro e w11 ⟨c1, c2, B2, rfl, ho1, ho2, hB, hsep, hb⟩
          have HA11 := hid (row_of ho1)
          have HD11 := hid (row_of ho2)
          have HB11 := hid (HB10.out.trans (hb.mono HB10.out.size))
          have HR11 := hid (HR10.out.call hb)
          clear ho1 ho2 hB hsep hb
          obtain ⟨x0, x1, x2, x3, x4, x5⟩ := HR11.out.cells
          go_wp2_with fail
          refine (HTk _).out.mono ?_
          rintro e w12 ⟨vt2, rfl, ho, hb⟩
          clear x0 x1 x2 x3 x4 x5
          have HT12 := hid (row_of ho)
          have HB12 := hid (HB11.out.trans (hb.mono HB11.out.size))
          have HR12 := hid (HR11.out.call hb)
          have HA12 := hid (HA11.out.kept hb)
          have HD12 := hid (HD11.out.kept hb)
          clear ho hb
          go_wp2_with fail
          refine (HSA c1 vt2 la _ HL1.out HA12.out HT12.out).out.mono ?_
          rintro e w13 ⟨rfl, hb⟩
          have HB13 := hid (HB12.out.trans (hb.mono HB12.out.size))
          have HR13 := hid (HR12.out.call hb)
          have HA13 := hid (HA12.out.kept hb)
          have HD13 := hid (HD12.out.kept hb)
          clear hb
          obtain ⟨x0, x1, x2, x3, x4, x5⟩ := HR13.out.cells
          go_wp2_with fail
          refine (HTl _).out.mono ?_
          rintro e w14 ⟨vu2, rfl, ho, hb⟩
          clear x0 x1 x2 x3 x4 x5
          have HT14 := hid (row_of ho)
          have HB14 := hid (HB13.out.trans (hb.mono HB13.out.size))
          have HR14 := hid (HR13.out.call hb)
          have HA14 := hid (HA13.out.kept hb)
          have HD14 := hid (HD13.out.kept hb)
          clear ho hb
          go_wp2_with fail
          refine (HSA c2 vu2 lb _ HL2.out HD14.out HT14.out).out.mono ?_
          rintro e w15 ⟨rfl, hb⟩
          have HB15 := hid (HB14.out.trans (hb.mono HB14.out.size))
          have HR15 := hid (HR14.out.call hb)
          have HA15 := hid (HA14.out.kept hb)
          have HD15 := hid (HD14.out.kept hb)
          clear hb
          go_wp2_with fail
          go_ret
          exact ⟨rfl, HB15.out⟩

end Go.Proofs.YtnechalhgdmgiaaDoor
