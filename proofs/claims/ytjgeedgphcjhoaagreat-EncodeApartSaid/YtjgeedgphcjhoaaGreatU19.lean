/-
  EIn3: merged, what the law does not reach left out (each text says what it holds where it lies in wip). No condition.
-/
import Derived.Test.YtjgeedgphcjhoaaGreatU18
import Derived.Test.YtjgeedgphcjhoaaGreatU01
set_option linter.unusedSimpArgs false
set_option linter.unusedVariables false
set_option maxRecDepth 100000
namespace Go.Proofs.YtjgeedgphcjhoaaGreat
open Go.RowKit
theorem FA.lns {B : Nat} {w : World} : ∀ (f : Fo) (g o : Nat), FA B w f g o → LnS f := by
  intro f
  induction f with
  | nil => intro g o h; trivial
  | cons op a b n h l ot body els rest ihb ihe ihr =>
    rintro g o ⟨hg, ⟨vl, vb, ve, h0, h1, h2, h3, h4, h5, h6, h7, h8, hl, ⟨p, c, g', o', e1, e2, e3⟩, ⟨p2, c2, g2, o2, f1, f2, f3⟩⟩, hr⟩
    obtain ⟨_, _, _, hq, _⟩ := hl
    exact ⟨hq, ihb _ _ e3, ihe _ _ f3, ihr _ _ hr⟩
theorem CO.lns {B : Nat} {w : World} {p : Option Addr} {c : Nat} {f : Fo} (h : CO B w p c f) : LnS f := by
  obtain ⟨⟨_, _, g, o, _, _, h3⟩, _⟩ := h
  exact FA.lns f g o h3
theorem CO.rn {B : Nat} {w : World} {p : Option Addr} {c : Nat} {f : Fo} (h : CO B w p c f) : RN f := h.2.2.2
theorem szL_inj {x y X Y : List UInt8} (hx : x.length < 18446744073709551616) (hy : y.length < 18446744073709551616) (e : szL x ++ X = szL y ++ Y) : x = y ∧ X = Y := by
  simp only [szL, List.append_assoc] at e
  obtain ⟨h1, h2⟩ := uI_inj (x := (x.length : Int)) (y := (y.length : Int)) ⟨by omega, by omega⟩ ⟨by omega, by omega⟩ e
  exact List.append_inj h2 (by omega)
theorem strL_inj {s t : ByteArray} {X Y : List UInt8} (hs : s.size ≤ 1000) (ht : t.size ≤ 1000) (e : strL s ++ X = strL t ++ Y) : s = t ∧ X = Y := by
  simp only [strL, List.append_assoc] at e
  obtain ⟨h1, h2⟩ := uI_inj (x := (s.size : Int)) (y := (t.size : Int)) ⟨by omega, by omega⟩ ⟨by omega, by omega⟩ e
  have h3 : s.size = t.size := by omega
  obtain ⟨h4, h5⟩ := List.append_inj h2 (by rw [Array.length_toList, Array.length_toList]; exact h3)
  refine ⟨?_, h5⟩
  cases s
  cases t
  simp only at h4
  rw [Array.toList_inj.1 h4]
theorem lsL_inj {l m : List Int} {X Y : List UInt8} (hl : l.length ≤ 1000) (hm : m.length ≤ 1000) (al : l.all valB = true) (am : m.all valB = true) (e : lsL l ++ X = lsL m ++ Y) : l = m ∧ X = Y := by
  simp only [lsL, List.append_assoc] at e
  rw [List.all_eq_true] at al am
  obtain ⟨h1, h2⟩ := uI_inj (x := (l.length : Int)) (y := (m.length : Int)) ⟨by omega, by omega⟩ ⟨by omega, by omega⟩ e
  exact bys_inj l m X Y (by omega) (fun x hx => valB_bR (al x hx)) (fun x hx => valB_bR (am x hx)) h2
theorem limB_in {mn mx : Int} {h : Bool} (r1 : i64B mn) (r2 : i64B mx) (hb : limB mn mx h = true) : uR mn ∧ uR mx ∧ (h = false → mx = 0) := by
  unfold limB at hb
  rw [Bool.and_eq_true] at hb
  obtain ⟨h1, h2⟩ := hb
  have h3 := (idxB_in r1 h1).1
  cases h with
  | true => exact ⟨h3, (idxB_in r2 h2).1, fun h => by cases h⟩
  | false =>
    have h4 : mx = 0 := by simpa using h2
    subst h4
    exact ⟨h3, ⟨by decide, by decide⟩, fun _ => rfl⟩
theorem limL_inj {mn mx mn2 mx2 : Int} {h h2 : Bool} {X Y : List UInt8} (r1 : i64B mn) (r2 : i64B mx) (r3 : i64B mn2) (r4 : i64B mx2) (b1 : limB mn mx h = true) (b2 : limB mn2 mx2 h2 = true) (e : limL mn mx h ++ X = limL mn2 mx2 h2 ++ Y) : mn = mn2 ∧ mx = mx2 ∧ h = h2 ∧ X = Y := by
  obtain ⟨q1, q2, q3⟩ := limB_in r1 r2 b1
  obtain ⟨p1, p2, p3⟩ := limB_in r3 r4 b2
  unfold limL at e
  cases h <;> cases h2
  · simp only [Bool.false_eq_true, if_false, List.cons_append, List.cons.injEq, true_and] at e
    obtain ⟨h5, h6⟩ := uI_inj q1 p1 e
    exact ⟨h5, by rw [q3 rfl, p3 rfl], rfl, h6⟩
  · simp at e
  · simp at e
  · simp only [if_true, List.cons_append, List.cons.injEq, true_and, List.append_assoc] at e
    obtain ⟨h5, h6⟩ := uI_inj q1 p1 e
    obtain ⟨h7, h8⟩ := uI_inj q2 p2 h6
    exact ⟨h5, h7, rfl, h8⟩
theorem tabL_inj {r mn mx r' mn2 mx2 : Int} {h h2 : Bool} {X Y : List UInt8} (r1 : i64B mn) (r2 : i64B mx) (r3 : i64B mn2) (r4 : i64B mx2) (a1 : refB r = true) (a2 : refB r' = true) (b1 : limB mn mx h = true) (b2 : limB mn2 mx2 h2 = true) (e : tabL r mn mx h ++ X = tabL r' mn2 mx2 h2 ++ Y) : r = r' ∧ mn = mn2 ∧ mx = mx2 ∧ h = h2 ∧ X = Y := by
  simp only [tabL, List.cons_append, List.cons.injEq] at e
  exact ⟨byI_inj (refB_bR a1) (refB_bR a2) e.1, limL_inj r1 r2 r3 r4 b1 b2 e.2⟩
theorem gloL_inj {t t2 : Int} {m m2 : Bool} {X Y : List UInt8} (a1 : valB t = true) (a2 : valB t2 = true) (e : gloL t m ++ X = gloL t2 m2 ++ Y) : t = t2 ∧ m = m2 ∧ X = Y := by
  simp only [gloL, List.cons_append, List.nil_append, List.cons.injEq] at e
  refine ⟨byI_inj (valB_bR a1) (valB_bR a2) e.1, ?_, e.2.2⟩
  have h := e.2.1
  cases m <;> cases m2 <;> simp at h ⊢
theorem mt_inj {x y : ETyp} {X Y : List UInt8} (px : mtP x = true) (py : mtP y = true) (lx : x.a.length ≤ 1000 ∧ x.b.length ≤ 1000) (ly : y.a.length ≤ 1000 ∧ y.b.length ≤ 1000) (e : mtL x ++ X = mtL y ++ Y) : x.eq y = true ∧ X = Y := by
  unfold mtP at px py
  rw [Bool.and_eq_true] at px py
  simp only [mtL, List.cons_append, List.append_assoc, List.cons.injEq, true_and] at e
  obtain ⟨h1, h2⟩ := lsL_inj lx.1 ly.1 px.1 py.1 e
  obtain ⟨h3, h4⟩ := lsL_inj lx.2 ly.2 px.2 py.2 h2
  exact ⟨by simp [ETyp.eq, h1, h3], h4⟩
theorem zT_in {r mn mx : Int} {h : Bool} (e : zTB r mn mx h = true) : r = 0 ∧ mn = 0 ∧ mx = 0 ∧ h = false := by
  simp only [zTB, Bool.and_eq_true, beq_iff_eq, Bool.not_eq_true'] at e
  exact ⟨e.1.1.1, e.1.1.2, e.1.2, e.2⟩
theorem zL_in {mn mx : Int} {h : Bool} (e : zLB mn mx h = true) : mn = 0 ∧ mx = 0 ∧ h = false := by
  simp only [zLB, Bool.and_eq_true, beq_iff_eq, Bool.not_eq_true'] at e
  exact ⟨e.1.1, e.1.2, e.2⟩
theorem zG_in {t : Int} {m : Bool} (e : zGB t m = true) : t = 0 ∧ m = false := by
  simp only [zGB, Bool.and_eq_true, beq_iff_eq, Bool.not_eq_true'] at e
  exact e
theorem imp_cls {kd ty tr tmn tmx : Int} {th : Bool} {mmn mmx : Int} {mh : Bool} {gt : Int} {gm v : Bool} (e : impP kd ty tr tmn tmx th mmn mmx mh gt gm v = true) :
    (kd = 0 ∧ idxB ty = true ∧ zTB tr tmn tmx th = true ∧ zLB mmn mmx mh = true ∧ zGB gt gm = true) ∨ (kd = 1 ∧ refB tr = true ∧ limB tmn tmx th = true ∧ ty = 0 ∧ zLB mmn mmx mh = true ∧ zGB gt gm = true) ∨
    (kd = 2 ∧ limB mmn mmx mh = true ∧ ty = 0 ∧ zTB tr tmn tmx th = true ∧ zGB gt gm = true) ∨ (kd = 3 ∧ valB gt = true ∧ ty = 0 ∧ zTB tr tmn tmx th = true ∧ zLB mmn mmx mh = true) := by
  unfold impP at e
  by_cases h0 : kd = 0
  · rw [if_pos h0] at e
    simp only [Bool.and_eq_true] at e
    exact .inl ⟨h0, e.1.1, e.1.2.1.1, e.1.2.1.2, e.1.2.2⟩
  rw [if_neg h0] at e
  by_cases h1 : kd = 1
  · rw [if_pos h1] at e
    simp only [Bool.and_eq_true, beq_iff_eq] at e
    exact .inr (.inl ⟨h1, e.1.1.1, e.1.1.2, e.1.2.1.1, e.1.2.1.2, e.1.2.2⟩)
  rw [if_neg h1] at e
  by_cases h2 : kd = 2
  · rw [if_pos h2] at e
    simp only [Bool.and_eq_true, beq_iff_eq] at e
    exact .inr (.inr (.inl ⟨h2, e.1.1, e.1.2.1.1, e.1.2.1.2, e.1.2.2⟩))
  rw [if_neg h2] at e
  by_cases h3 : kd = 3
  · rw [if_pos h3] at e
    simp only [Bool.and_eq_true, beq_iff_eq] at e
    exact .inr (.inr (.inr ⟨h3, e.1.1, e.1.2.1.1, e.1.2.1.2, e.1.2.2⟩))
  rw [if_neg h3] at e
  cases e
theorem mi_inj {B : Nat} {w w2 : World} {x y : EImp} {X Y : List UInt8} (ox : EImp.ok B w x) (oy : EImp.ok B w2 y) (px : miP x = true) (py : miP y = true) (lx : x.s0.size ≤ 1000 ∧ x.s1.size ≤ 1000) (ly : y.s0.size ≤ 1000 ∧ y.s1.size ≤ 1000) (e : miL x ++ X = miL y ++ Y) : x.eq y = true ∧ X = Y := by
  unfold miP at px py
  simp only [miL, List.cons_append, List.append_assoc] at e
  obtain ⟨h1, e⟩ := strL_inj lx.1 ly.1 e
  obtain ⟨h2, e⟩ := strL_inj lx.2 ly.2 e
  rw [List.cons.injEq] at e
  obtain ⟨k, e⟩ := e
  have kk : x.kd = y.kd := byI_inj (by rcases imp_cls px with ⟨h, _⟩ | ⟨h, _⟩ | ⟨h, _⟩ | ⟨h, _⟩ <;> rw [h] <;> exact ⟨by decide, by decide⟩) (by rcases imp_cls py with ⟨h, _⟩ | ⟨h, _⟩ | ⟨h, _⟩ | ⟨h, _⟩ <;> rw [h] <;> exact ⟨by decide, by decide⟩) k
  rcases imp_cls px with ⟨a0, a1, a2, a3, a4⟩ | ⟨a0, a1, a2, a3, a4, a5⟩ | ⟨a0, a1, a2, a3, a4⟩ | ⟨a0, a1, a2, a3, a4⟩ <;> rcases imp_cls py with ⟨b0, b1, b2, b3, b4⟩ | ⟨b0, b1, b2, b3, b4, b5⟩ | ⟨b0, b1, b2, b3, b4⟩ | ⟨b0, b1, b2, b3, b4⟩ <;> (try (exfalso; omega))
  · simp only [a0, b0, if_true] at e
    obtain ⟨e1, e2⟩ := uI_inj (idxB_in ox.h3 a1).1 (idxB_in oy.h3 b1).1 e
    refine ⟨?_, e2⟩
    simp [EImp.eq, h1, h2, kk, e1, zT_in a2, zT_in b2, zL_in a3, zL_in b3, zG_in a4, zG_in b4]
  · simp only [a0, b0, if_true, show ¬ ((1 : Int) = 0) by decide, if_false] at e
    obtain ⟨e1, e2, e3, e4, e5⟩ := tabL_inj ox.h5 ox.h6 oy.h5 oy.h6 a1 b1 a2 b2 e
    refine ⟨?_, e5⟩
    simp [EImp.eq, h1, h2, kk, a3, b3, e1, e2, e3, e4, zL_in a4, zL_in b4, zG_in a5, zG_in b5]
  · simp only [a0, b0, if_true, show ¬ ((2 : Int) = 0) by decide, show ¬ ((2 : Int) = 1) by decide, if_false] at e
    obtain ⟨e1, e2, e3, e4⟩ := limL_inj ox.h7 ox.h8 oy.h7 oy.h8 a1 b1 e
    refine ⟨?_, e4⟩
    simp [EImp.eq, h1, h2, kk, a2, b2, e1, e2, e3, zT_in a3, zT_in b3, zG_in a4, zG_in b4]
  · simp only [a0, b0, show ¬ ((3 : Int) = 0) by decide, show ¬ ((3 : Int) = 1) by decide, show ¬ ((3 : Int) = 2) by decide, if_false] at e
    obtain ⟨e1, e2, e3⟩ := gloL_inj a1 b1 e
    refine ⟨?_, e3⟩
    simp [EImp.eq, h1, h2, kk, a2, b2, e1, e2, zT_in a3, zT_in b3, zL_in a4, zL_in b4]
theorem mb_inj {B : Nat} {w w2 : World} {x y : ETab} {X Y : List UInt8} (ox : ETab.ok B w x) (oy : ETab.ok B w2 y) (px : mbP x = true) (py : mbP y = true) (e : mbL x ++ X = mbL y ++ Y) : x.eq y = true ∧ X = Y := by
  unfold mbP at px py
  rw [Bool.and_eq_true] at px py
  obtain ⟨e1, e2, e3, e4, e5⟩ := tabL_inj ox.h1 ox.h2 oy.h1 oy.h2 px.1 py.1 px.2 py.2 e
  exact ⟨by simp [ETab.eq, e1, e2, e3, e4], e5⟩
theorem ml_inj {B : Nat} {w w2 : World} {x y : ELim} {X Y : List UInt8} (ox : ELim.ok B w x) (oy : ELim.ok B w2 y) (px : mlP x = true) (py : mlP y = true) (e : mlL x ++ X = mlL y ++ Y) : x.eq y = true ∧ X = Y := by
  obtain ⟨e1, e2, e3, e4⟩ := limL_inj ox.h0 ox.h1 oy.h0 oy.h1 px py e
  exact ⟨by simp [ELim.eq, e1, e2, e3], e4⟩
theorem mg_inj {B : Nat} {w w2 : World} {x y : EGlo} {X Y : List UInt8} (ox : EGlo.ok B w x) (oy : EGlo.ok B w2 y) (px : mgP x = true) (py : mgP y = true) (e : mgL x ++ X = mgL y ++ Y) : x.eq y = true ∧ X = Y := by
  unfold mgP at px py
  rw [Bool.and_eq_true] at px py
  simp only [mgL, List.append_assoc] at e
  obtain ⟨e1, e2, e3⟩ := gloL_inj px.1 py.1 e
  obtain ⟨e4, e5⟩ := codL_inj px.2 py.2 ox.h1.rn oy.h1.rn ox.h1.lns oy.h1.lns e3
  exact ⟨by simp [EGlo.eq, e1, e2, e4, Fo.beq_refl], e5⟩
theorem kindB_bR {k : Int} (h : kindB k = true) : bR k := by
  simp only [kindB, Bool.or_eq_true, beq_iff_eq] at h
  unfold bR
  omega
theorem mx_inj {B : Nat} {w w2 : World} {x y : EExp} {X Y : List UInt8} (ox : EExp.ok B w x) (oy : EExp.ok B w2 y) (px : mxP x = true) (py : mxP y = true) (lx : x.s.size ≤ 1000) (ly : y.s.size ≤ 1000) (e : mxL x ++ X = mxL y ++ Y) : x.eq y = true ∧ X = Y := by
  unfold mxP at px py
  simp only [Bool.and_eq_true] at px py
  simp only [mxL, List.cons_append, List.append_assoc] at e
  obtain ⟨h1, e⟩ := strL_inj lx ly e
  rw [List.cons.injEq] at e
  have h2 := byI_inj (kindB_bR px.1) (kindB_bR py.1) e.1
  obtain ⟨h3, h4⟩ := uI_inj (idxB_in ox.h2 px.2.1).1 (idxB_in oy.h2 py.2.1).1 e.2
  exact ⟨by simp [EExp.eq, h1, h2, h3], h4⟩
def unruns : List (Nat × Int) → List Int
  | [] => []
  | (n, x) :: r => List.replicate n x ++ unruns r
theorem unruns_runs : ∀ l : List Int, unruns (runsL l) = l := by
  intro l
  induction l with
  | nil => rfl
  | cons x l ih =>
    rw [runsL]
    split
    · rename_i h
      rw [h] at ih
      rw [← ih]
      rfl
    · rename_i n y r h
      rw [h] at ih
      split
      · rename_i hxy
        subst hxy
        rw [← ih]
        simp [unruns, List.replicate_succ]
      · rw [← ih]
        simp [unruns, List.replicate_succ]
theorem runs_mem : ∀ (l : List Int) (p : Nat × Int), p ∈ runsL l → p.1 ≤ l.length ∧ p.2 ∈ l := by
  intro l
  induction l with
  | nil => intro p hp; cases hp
  | cons x l ih =>
    intro p hp
    rw [runsL] at hp
    split at hp
    · obtain rfl : p = (1, x) := by simpa using hp
      exact ⟨by simp, by simp⟩
    · rename_i n y r h
      have ihn := ih (n, y) (by rw [h]; simp)
      split at hp
      · rename_i hxy
        rcases List.mem_cons.1 hp with rfl | hp
        · exact ⟨by simpa using ihn.1, by simp [hxy]⟩
        · have := ih p (by rw [h]; simp [hp])
          exact ⟨by rw [List.length_cons]; omega, by simp [this.2]⟩
      · rcases List.mem_cons.1 hp with rfl | hp
        · exact ⟨by simp, by simp⟩
        · have := ih p (by rw [h]; exact hp)
          exact ⟨by rw [List.length_cons]; omega, by simp [this.2]⟩
theorem runsE_le : ∀ l : List Int, (runsL l).length ≤ l.length := by
  intro l
  induction l with
  | nil => exact Nat.le_refl _
  | cons x l ih =>
    rw [runsL]
    split
    · simp
    · rename_i n y r h
      rw [h] at ih
      simp only [List.length_cons] at ih
      split <;> simp only [List.length_cons] <;> omega
theorem rbL_inj : ∀ (r s : List (Nat × Int)) (X Y : List UInt8), r.length = s.length → (∀ p ∈ r, p.1 ≤ 60000 ∧ bR p.2) → (∀ p ∈ s, p.1 ≤ 60000 ∧ bR p.2) → rbL r ++ X = rbL s ++ Y → r = s ∧ X = Y := by
  intro r
  induction r with
  | nil =>
    intro s X Y hl _ _ h
    obtain rfl : s = [] := List.length_eq_zero_iff.1 hl.symm
    exact ⟨rfl, by simpa [rbL] using h⟩
  | cons p r ih =>
    intro s X Y hl hr hs h
    cases s with
    | nil => simp at hl
    | cons q s =>
      obtain ⟨n, x⟩ := p
      obtain ⟨m, y⟩ := q
      have h1 := hr (n, x) (by simp)
      have h2 := hs (m, y) (by simp)
      simp only [rbL, runB, List.append_assoc, List.cons_append, List.nil_append] at h
      obtain ⟨h3, h4⟩ := uI_inj (x := (n : Int)) (y := (m : Int)) ⟨by omega, by have := h1.1; simp only at this; omega⟩ ⟨by omega, by have := h2.1; simp only at this; omega⟩ h
      rw [List.cons.injEq] at h4
      have h5 : x = y := byI_inj h1.2 h2.2 h4.1
      obtain ⟨h6, h7⟩ := ih s X Y (by simpa using hl) (fun z hz => hr z (by simp [hz])) (fun z hz => hs z (by simp [hz])) h4.2
      have h8 : n = m := by omega
      exact ⟨by rw [h5, h6, h8], h7⟩
theorem locL_inj {l m : List Int} {X Y : List UInt8} (hl : l.length ≤ 60000) (hm : m.length ≤ 60000) (al : l.all valB = true) (am : m.all valB = true) (e : locL l ++ X = locL m ++ Y) : l = m ∧ X = Y := by
  simp only [locL, List.append_assoc] at e
  rw [List.all_eq_true] at al am
  have q1 := runsE_le l
  have q2 := runsE_le m
  obtain ⟨h1, h2⟩ := uI_inj (x := ((runsL l).length : Int)) (y := ((runsL m).length : Int)) ⟨by omega, by omega⟩ ⟨by omega, by omega⟩ e
  obtain ⟨h3, h4⟩ := rbL_inj _ _ X Y (by omega) (fun p hp => ⟨by have := (runs_mem l p hp).1; omega, valB_bR (al _ (runs_mem l p hp).2)⟩) (fun p hp => ⟨by have := (runs_mem m p hp).1; omega, valB_bR (am _ (runs_mem m p hp).2)⟩) h2
  exact ⟨by rw [← unruns_runs l, ← unruns_runs m, h3], h4⟩
theorem mf_inj {B : Nat} {w w2 : World} {x y : EFun} {X Y : List UInt8} (ox : EFun.ok B w x) (oy : EFun.ok B w2 y) (px : mfP x = true) (py : mfP y = true) (lx : (locL x.l ++ codL x.f).length ≤ 70000000) (ly : (locL y.l ++ codL y.f).length ≤ 70000000) (e : mfL x ++ X = mfL y ++ Y) : ((x.l == y.l) && x.f.beq y.f) = true ∧ X = Y := by
  unfold mfP at px py
  simp only [Bool.and_eq_true, decide_eq_true_eq] at px py
  obtain ⟨h1, h2⟩ := szL_inj (by omega) (by omega) e
  have h1' : locL x.l ++ (codL x.f ++ []) = locL y.l ++ (codL y.f ++ []) := by simpa using h1
  obtain ⟨h3, h4⟩ := locL_inj (by have := px.1.1.2; omega) (by have := py.1.1.2; omega) px.1.2 py.1.2 h1'
  obtain ⟨h5, _⟩ := codL_inj px.2 py.2 ox.h2.rn oy.h2.rn ox.h2.lns oy.h2.lns h4
  exact ⟨by simp [h3, h5, Fo.beq_refl], h2⟩
theorem fun_tells {f : Fo} (hf : isFun f = true) (hc : codeB f = true) : ∃ a b n h l ot body els, f = .cons 210 a b n h l ot body els .nil ∧ okB 4 210 a b n h l ot body.len els.len = true := by
  cases f with
  | nil => cases hf
  | cons op a b n h l ot body els rest =>
    cases rest with
    | cons => cases hf
    | nil =>
      have ho : op = 210 := by simpa [isFun] using hf
      subst ho
      obtain ⟨h1, _⟩ := ev_cons (show (evF codeSt (.cons 210 a b n h l ot body els .nil) 1 ()).1 = true from hc)
      rw [insB, Bool.and_eq_true, kn_210] at h1
      exact ⟨a, b, n, h, l, ot, body, els, rfl, h1.2⟩
theorem iniL_inj {c : Bool} {f g : Fo} {X Y : List UInt8} (cf : codeB f = true) (cg : codeB g = true) (rf : RN f) (rg : RN g) (lf : LnS f) (lg : LnS g) (hf : c = true → isFun f = true) (hg : c = true → isFun g = true) (e : iniL c f ++ X = iniL c g ++ Y) : f = g ∧ X = Y := by
  cases c with
  | false => exact codL_inj cf cg rf rg lf lg e
  | true =>
    obtain ⟨a, b, n, h, l, ot, body, els, rfl, o1⟩ := fun_tells (hf rfl) cf
    obtain ⟨a2, b2, n2, h2, l2, ot2, body2, els2, rfl, o2⟩ := fun_tells (hg rfl) cg
    have e2 : behL 4 a b n h l ot body.enc els.enc ++ X = behL 4 a2 b2 n2 h2 l2 ot2 body2.enc els2.enc ++ Y := e
    obtain ⟨⟨rfl, rfl, rfl, rfl, rfl, rfl, rfl, rfl⟩, h9⟩ := tells_any 4 (by decide) (by decide) (by decide) 210 a b n h l ot body els a2 b2 n2 h2 l2 ot2 body2 els2 _ _ _ _ X Y o1 o2 rf.1 rf.2.1 rf.2.2.1 rf.2.2.2.2.2.2.1 rf.2.2.2.2.2.2.2 lf.1 rg.1 rg.2.1 rg.2.2.1 rg.2.2.2.2.2.2.1 rg.2.2.2.2.2.2.2 lg.1 e2
    exact ⟨rfl, h9⟩
theorem flB_inj {P Q : Nat → List UInt8} {R : Nat → Prop} : ∀ (n : Nat) (X Y : List UInt8), (∀ i, i < n → ∀ X Y, P i ++ X = Q i ++ Y → R i ∧ X = Y) → flB n P ++ X = flB n Q ++ Y → (∀ i, i < n → R i) ∧ X = Y := by
  intro n
  induction n with
  | zero => intro X Y _ h; exact ⟨fun i hi => absurd hi (by omega), h⟩
  | succ n ih =>
    intro X Y hR h
    simp only [flB, List.append_assoc] at h
    obtain ⟨h1, h2⟩ := ih _ _ (fun i hi => hR i (by omega)) h
    obtain ⟨h3, h4⟩ := hR n (by omega) X Y h2
    refine ⟨fun i hi => ?_, h4⟩
    rcases (show i < n ∨ i = n by omega) with h5 | rfl
    · exact h1 i h5
    · exact h3
theorem me_cls (x : EElm) (hm : x.m = 0 ∨ x.m = 1 ∨ x.m = 2) : ∃ T, T = uI x.ng ++ flB x.ng (fun k => iniL (funsB x) (x.g k)) ∧
    ((x.m = 0 ∧ x.t = 0 ∧ x.r = 112 ∧ meL x = (if funsB x = true then 0 else 4) :: (codL x.f ++ T)) ∨ (x.m = 0 ∧ meL x = (if funsB x = true then 2 else 6) :: (uI x.t ++ (codL x.f ++ ((if funsB x = true then 0 else byI x.r) :: T)))) ∨
     (x.m = 1 ∧ meL x = (if funsB x = true then 1 else 5) :: (if funsB x = true then 0 else byI x.r) :: T) ∨ (x.m = 2 ∧ meL x = (if funsB x = true then 3 else 7) :: (if funsB x = true then 0 else byI x.r) :: T)) := by
  refine ⟨_, rfl, ?_⟩
  unfold meL
  rcases hm with h | h | h
  · by_cases h2 : x.t = 0 ∧ x.r = 112
    · rw [if_pos h, if_pos h2]
      exact .inl ⟨h, h2.1, h2.2, rfl⟩
    · rw [if_pos h, if_neg h2]
      refine .inr (.inl ⟨h, ?_⟩)
      simp only [List.cons_append, List.append_assoc, List.nil_append]
  · rw [if_neg (by omega), if_pos h]
    exact .inr (.inr (.inl ⟨h, rfl⟩))
  · rw [if_neg (by omega), if_neg (by omega)]
    exact .inr (.inr (.inr ⟨h, rfl⟩))
theorem funs_r {x : EElm} (h : funsB x = true) : x.r = 112 ∧ ∀ k, k < x.ng → isFun (x.g k) = true := by
  unfold funsB at h
  simp only [Bool.and_eq_true, List.all_eq_true, List.mem_range, beq_iff_eq] at h
  exact ⟨h.2, h.1⟩
theorem place_in {m t : Int} {off : Bool} {no : Nat} {top : Int} (h : placeB m t off no top = true) (ht : i64B t) : (m = 0 ∧ uR t ∧ off = true) ∨ (0 < m ∧ m ≤ top ∧ t = 0 ∧ no = 0) := by
  unfold placeB at h
  by_cases h0 : m = 0
  · rw [if_pos h0, Bool.and_eq_true] at h
    exact .inl ⟨h0, (idxB_in ht h.1).1, h.2⟩
  · rw [if_neg h0] at h
    simp only [Bool.and_eq_true, decide_eq_true_eq, beq_iff_eq] at h
    exact .inr ⟨h.1.1, h.1.2, h.2.1, by have := h.2.2; omega⟩
theorem meT_inj {B : Nat} {w w2 : World} {x y : EElm} {X Y : List UInt8} (ox : EElm.ok B w x) (oy : EElm.ok B w2 y) (cx : ∀ k, k < x.ng → codeB (x.g k) = true) (cy : ∀ k, k < y.ng → codeB (y.g k) = true) (nx : x.ng ≤ 100) (ny : y.ng ≤ 100) (hfu : funsB x = funsB y)
    (e : (uI x.ng ++ flB x.ng (fun k => iniL (funsB x) (x.g k))) ++ X = (uI y.ng ++ flB y.ng (fun k => iniL (funsB y) (y.g k))) ++ Y) : eqL x.ng y.ng (fun k => (x.g k).beq (y.g k)) = true ∧ X = Y := by
  simp only [List.append_assoc] at e
  obtain ⟨h1, h2⟩ := uI_inj (x := (x.ng : Int)) (y := (y.ng : Int)) ⟨by omega, by omega⟩ ⟨by omega, by omega⟩ e
  have hn : x.ng = y.ng := by omega
  rw [← hn, ← hfu] at h2
  obtain ⟨h3, h4⟩ := flB_inj (R := fun k => x.g k = y.g k) x.ng X Y (fun k hk X Y he => iniL_inj (cx k hk) (cy k (by omega)) (ox.h4.2 k hk).rn (oy.h4.2 k (by omega)).rn (ox.h4.2 k hk).lns (oy.h4.2 k (by omega)).lns (fun h => (funs_r h).2 k hk) (fun h => (funs_r (x := y) (hfu ▸ h)).2 k (by omega)) he) h2
  exact ⟨(eqL_iff _ _ _).2 ⟨hn, fun k hk => by rw [h3 k hk]; exact Fo.beq_refl _⟩, h4⟩
theorem me_inj {B : Nat} {w w2 : World} {x y : EElm} {X Y : List UInt8} (ox : EElm.ok B w x) (oy : EElm.ok B w2 y) (px : meP x = true) (py : meP y = true) (nx : x.ng ≤ 100) (ny : y.ng ≤ 100) (e : meL x ++ X = meL y ++ Y) : x.eq y = true ∧ X = Y := by
  unfold meP at px py
  simp only [Bool.and_eq_true, List.all_eq_true, List.mem_range] at px py
  obtain ⟨⟨px1, px2⟩, px3⟩ := px
  obtain ⟨⟨py1, py2⟩, py3⟩ := py
  have qx := place_in px3 ox.h2
  have qy := place_in py3 oy.h2
  obtain ⟨T, hT, hx⟩ := me_cls x (by rcases qx with h | h <;> omega)
  obtain ⟨U, hU, hy⟩ := me_cls y (by rcases qy with h | h <;> omega)
  have key : funsB x = funsB y → T ++ X = U ++ Y → eqL x.ng y.ng (fun k => (x.g k).beq (y.g k)) = true ∧ X = Y := by
    intro hfu h
    rw [hT, hU] at h
    exact meT_inj ox oy px2 py2 nx ny hfu h
  have fin : x.r = y.r → x.m = y.m → x.t = y.t → x.f = y.f → eqL x.ng y.ng (fun k => (x.g k).beq (y.g k)) = true → x.eq y = true := by
    intro h1 h2 h3 h4 h5
    simp [EElm.eq, h1, h2, h3, h4, h5, Fo.beq_refl]
  have rr : funsB x = funsB y → (funsB x = false → byI x.r = byI y.r) → x.r = y.r := by
    intro h1 h2
    cases hb : funsB x with
    | true => rw [(funs_r hb).1, (funs_r (h1 ▸ hb)).1]
    | false => exact byI_inj (refB_bR px1) (refB_bR py1) (h2 hb)
  have passive : 0 < x.m → 0 < y.m → x.m = y.m → x.t = y.t ∧ x.f = y.f := by
    intro h1 h2 h3
    have h4 : x.t = 0 ∧ x.f.len = 0 := by rcases qx with h | h <;> first | omega | exact ⟨h.2.2.1, h.2.2.2⟩
    have h5 : y.t = 0 ∧ y.f.len = 0 := by rcases qy with h | h <;> first | omega | exact ⟨h.2.2.1, h.2.2.2⟩
    exact ⟨by rw [h4.1, h5.1], by rw [len_nil h4.2, len_nil h5.2]⟩
  have act : x.m = 0 → uR x.t ∧ codeB x.f = true := fun h1 => by rcases qx with h | h <;> first | exact h.2 | omega
  have act2 : y.m = 0 → uR y.t ∧ codeB y.f = true := fun h1 => by rcases qy with h | h <;> first | exact h.2 | omega
  clear hT hU
  cases bx : funsB x <;> cases by_ : funsB y <;> rw [bx] at hx key rr <;> rw [by_] at hy key rr <;> simp only [Bool.false_eq_true, if_false, if_true] at hx hy <;>
    rcases hx with ⟨m1, t1, r1, e1⟩ | ⟨m1, e1⟩ | ⟨m1, e1⟩ | ⟨m1, e1⟩ <;> rcases hy with ⟨m2, t2, r2, e2⟩ | ⟨m2, e2⟩ | ⟨m2, e2⟩ | ⟨m2, e2⟩ <;> rw [e1, e2] at e <;> simp only [List.cons_append, List.append_assoc, List.cons.injEq] at e <;> (try (exfalso; revert e; intro e; have := e.1; revert this; decide))
  · obtain ⟨h1, h2⟩ := codL_inj (act m1).2 (act2 m2).2 ox.h3.rn oy.h3.rn ox.h3.lns oy.h3.lns e.2
    obtain ⟨h3, h4⟩ := key rfl h2
    exact ⟨fin (by rw [r1, r2]) (by rw [m1, m2]) (by rw [t1, t2]) h1 h3, h4⟩
  · obtain ⟨h0, h9⟩ := uI_inj (act m1).1 (act2 m2).1 e.2
    obtain ⟨h1, h2⟩ := codL_inj (act m1).2 (act2 m2).2 ox.h3.rn oy.h3.rn ox.h3.lns oy.h3.lns h9
    rw [List.cons.injEq] at h2
    obtain ⟨h3, h4⟩ := key rfl h2.2
    exact ⟨fin (rr rfl (fun h => h2.1)) (by rw [m1, m2]) h0 h1 h3, h4⟩
  · obtain ⟨h3, h4⟩ := key rfl e.2.2
    have h5 := passive (by omega) (by omega) (by omega)
    exact ⟨fin (rr rfl (fun h => e.2.1)) (by rw [m1, m2]) h5.1 h5.2 h3, h4⟩
  · obtain ⟨h3, h4⟩ := key rfl e.2.2
    have h5 := passive (by omega) (by omega) (by omega)
    exact ⟨fin (rr rfl (fun h => e.2.1)) (by rw [m1, m2]) h5.1 h5.2 h3, h4⟩
  · obtain ⟨h1, h2⟩ := codL_inj (act m1).2 (act2 m2).2 ox.h3.rn oy.h3.rn ox.h3.lns oy.h3.lns e.2
    obtain ⟨h3, h4⟩ := key rfl h2
    exact ⟨fin (by rw [r1, r2]) (by rw [m1, m2]) (by rw [t1, t2]) h1 h3, h4⟩
  · obtain ⟨h0, h9⟩ := uI_inj (act m1).1 (act2 m2).1 e.2
    obtain ⟨h1, h2⟩ := codL_inj (act m1).2 (act2 m2).2 ox.h3.rn oy.h3.rn ox.h3.lns oy.h3.lns h9
    rw [List.cons.injEq] at h2
    obtain ⟨h3, h4⟩ := key rfl h2.2
    exact ⟨fin (rr rfl (fun h => by cases h)) (by rw [m1, m2]) h0 h1 h3, h4⟩
  · obtain ⟨h3, h4⟩ := key rfl e.2.2
    have h5 := passive (by omega) (by omega) (by omega)
    exact ⟨fin (rr rfl (fun h => by cases h)) (by rw [m1, m2]) h5.1 h5.2 h3, h4⟩
  · obtain ⟨h3, h4⟩ := key rfl e.2.2
    have h5 := passive (by omega) (by omega) (by omega)
    exact ⟨fin (rr rfl (fun h => by cases h)) (by rw [m1, m2]) h5.1 h5.2 h3, h4⟩
theorem md_inj {B : Nat} {w w2 : World} {x y : EDat} {X Y : List UInt8} (ox : EDat.ok B w x) (oy : EDat.ok B w2 y) (px : mdP x = true) (py : mdP y = true) (nx : x.b.length ≤ 100000) (ny : y.b.length ≤ 100000) (e : mdL x ++ X = mdL y ++ Y) : x.eq y = true ∧ X = Y := by
  unfold mdP at px py
  have qx := place_in px ox.h1
  have qy := place_in py oy.h1
  have cls : ∀ z : EDat, (z.m = 0 ∨ z.m = 1) → (z.m = 1 ∧ mdL z = 1 :: szL z.b) ∨ (z.m = 0 ∧ z.t = 0 ∧ mdL z = 0 :: (codL z.f ++ szL z.b)) ∨ (z.m = 0 ∧ mdL z = 2 :: (uI z.t ++ (codL z.f ++ szL z.b))) := by
    intro z hz
    unfold mdL
    rcases hz with h | h
    · by_cases h2 : z.t = 0
      · rw [if_neg (by omega), if_pos h2]
        exact .inr (.inl ⟨h, h2, rfl⟩)
      · rw [if_neg (by omega), if_neg h2]
        refine .inr (.inr ⟨h, ?_⟩)
        simp only [List.cons_append, List.append_assoc]
    · rw [if_pos h]
      exact .inl ⟨h, rfl⟩
  have fin : x.m = y.m → x.t = y.t → x.f = y.f → x.b = y.b → x.eq y = true := by
    intro h1 h2 h3 h4
    simp [EDat.eq, h1, h2, h3, h4, Fo.beq_refl]
  have act : x.m = 0 → uR x.t ∧ codeB x.f = true := fun h1 => by rcases qx with h | h <;> first | exact h.2 | omega
  have act2 : y.m = 0 → uR y.t ∧ codeB y.f = true := fun h1 => by rcases qy with h | h <;> first | exact h.2 | omega
  rcases cls x (by rcases qx with h | h <;> omega) with ⟨m1, e1⟩ | ⟨m1, t1, e1⟩ | ⟨m1, e1⟩ <;> rcases cls y (by rcases qy with h | h <;> omega) with ⟨m2, e2⟩ | ⟨m2, t2, e2⟩ | ⟨m2, e2⟩ <;> rw [e1, e2] at e <;> simp only [List.cons_append, List.append_assoc, List.cons.injEq] at e <;> (try (exfalso; revert e; intro e; have := e.1; revert this; decide))
  · obtain ⟨h1, h2⟩ := szL_inj (by omega) (by omega) e.2
    have h4 : x.t = 0 ∧ x.f.len = 0 := by rcases qx with h | h <;> first | omega | exact ⟨h.2.2.1, h.2.2.2⟩
    have h5 : y.t = 0 ∧ y.f.len = 0 := by rcases qy with h | h <;> first | omega | exact ⟨h.2.2.1, h.2.2.2⟩
    exact ⟨fin (by rw [m1, m2]) (by rw [h4.1, h5.1]) (by rw [len_nil h4.2, len_nil h5.2]) h1, h2⟩
  · obtain ⟨h1, h2⟩ := codL_inj (act m1).2 (act2 m2).2 ox.h2.rn oy.h2.rn ox.h2.lns oy.h2.lns e.2
    obtain ⟨h3, h4⟩ := szL_inj (by omega) (by omega) h2
    exact ⟨fin (by rw [m1, m2]) (by rw [t1, t2]) h1 h3, h4⟩
  · obtain ⟨h0, h9⟩ := uI_inj (act m1).1 (act2 m2).1 e.2
    obtain ⟨h1, h2⟩ := codL_inj (act m1).2 (act2 m2).2 ox.h2.rn oy.h2.rn ox.h2.lns oy.h2.lns h9
    obtain ⟨h3, h4⟩ := szL_inj (by omega) (by omega) h2
    exact ⟨fin (by rw [m1, m2]) h0 h1 h3, h4⟩
end Go.Proofs.YtjgeedgphcjhoaaGreat
