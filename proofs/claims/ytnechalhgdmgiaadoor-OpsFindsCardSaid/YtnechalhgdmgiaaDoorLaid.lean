/-
  What the laws' condition gives the walks: the six package-level tables hold what their text lays; and the door's own heap meets it.
-/
import Derived.Test.YtnechalhgdmgiaaDoorOps1
import Derived.Test.YtnechalhgdmgiaaDoorRows
import Derived.ProofKit
import Derived.LaidMore
import Derived.OpenShut
import Derived.Lib.LaidTab
import Derived.ChangeSame
import Derived.Stop.LaidErr
set_option linter.unusedSimpArgs false
set_option linter.unusedVariables false
namespace Go.Proofs.YtnechalhgdmgiaaDoor
open Go.ChangeShapes Go.WideShapes Go.ChangeAt Go.WideMaps Go.WideElems Go.RowKit

theorem own : ownKnob Tryd.prog.godebug = none := by kernel_rfl

abbrev LAID : List (String × DataW Unit) := [("bodkin/ops.spans", Rows.laid_bodkin_ops_spans), ("bodkin/ops.plainAligns", Rows.laid_bodkin_ops_plainAligns), ("bodkin/ops.vectorAligns", Rows.laid_bodkin_ops_vectorAligns), ("bodkin/ops.laneAligns", Rows.laid_bodkin_ops_laneAligns), ("bodkin/ops.laneCounts", Rows.laid_bodkin_ops_laneCounts), ("bodkin/ops.lists", Rows.laid_bodkin_ops_lists)]

set_option maxRecDepth 100000 in
theorem door_met (os : Os) (args : Array Value) : laidMetH Tryd.prog LAID ((World.doorLaid Tryd.prog 63 os).forCall (fun _ _ => 0) ⟨#[], args, []⟩).memory :=
  laidMetH_of_parts3 (fuel := 8) (laidMet_of_run' 8 (by kernel_rfl) (by kernel_rfl)) (by kernel_rfl) (by kernel_rfl)

theorem g0 : Tryd.prog.globalNamed "bodkin/ops.plainAligns" = some 0 := by kernel_rfl
theorem g1 : Tryd.prog.globalNamed "bodkin/ops.vectorAligns" = some 1 := by kernel_rfl
theorem g2 : Tryd.prog.globalNamed "bodkin/ops.laneAligns" = some 2 := by kernel_rfl
theorem g3 : Tryd.prog.globalNamed "bodkin/ops.laneCounts" = some 3 := by kernel_rfl
theorem g4 : Tryd.prog.globalNamed "bodkin/ops.spans" = some 4 := by kernel_rfl
theorem g5 : Tryd.prog.globalNamed "bodkin/ops.lists" = some 5 := by kernel_rfl
theorem y0 : (Tryd.prog.globals[0]?).map (·.type) = some 46 := by kernel_rfl
theorem y1 : (Tryd.prog.globals[1]?).map (·.type) = some 47 := by kernel_rfl
theorem y2 : (Tryd.prog.globals[2]?).map (·.type) = some 48 := by kernel_rfl
theorem y3 : (Tryd.prog.globals[3]?).map (·.type) = some 49 := by kernel_rfl
theorem y4 : (Tryd.prog.globals[4]?).map (·.type) = some 53 := by kernel_rfl
theorem y5 : (Tryd.prog.globals[5]?).map (·.type) = some 58 := by kernel_rfl
theorem k3 : Tryd.prog.cellsOf 3 = 1 := by kernel_rfl
theorem k52 : Tryd.prog.cellsOf 52 = 2 := by kernel_rfl
theorem k57 : Tryd.prog.cellsOf 57 = 3 := by kernel_rfl

section
variable {enc : TypeId × Value → Unit} {W : World} {base : Nat} {sp : Nat → Bool} {held : Bool}

/-- A pair of numbers that reads as a datum holds its numbers. -/
theorem pair_cells {fuel : Nat} {cs : List Value} {a b : Int} {p : List MemPlace} (h : DataW.trod enc Tryd.prog W base sp held fuel 52 cs = some (.agg [.lit (.int .i64 a), .lit (.int .i64 b)], p)) (hl : cs.length = 2) : cs = [.int .i64 a, .int .i64 b] := by
  obtain ⟨f0, f1, hu, ht0, ht1, ho0, ho1⟩ : ∃ f0 f1 : Field, Tryd.prog.underlying 52 = some (.struct #[f0, f1]) ∧ f0.type = 3 ∧ f1.type = 3 ∧ f0.offset = 0 ∧ f1.offset = 1 := ⟨_, _, Tryd.underlying52, rfl, rfl, rfl, rfl⟩
  obtain ⟨x0, x1, n, hx, _, h0, h1⟩ := trod_struct2 hu h
  rw [ht0, ho0, k3] at h0
  rw [ht1, ho1, k3] at h1
  match cs, hl with
  | [c0, c1], _ =>
    obtain ⟨r, e1, e2, _⟩ := DataW.trod_int Tryd.underlying3 h0
    obtain ⟨r', e1', e2', _⟩ := DataW.trod_int Tryd.underlying3 h1
    simp only [Prod.mk.injEq, DataW.agg.injEq, List.cons.injEq] at hx
    rw [e2] at hx
    rw [e2'] at hx
    simp at hx e1 e1'
    rw [e1, e1', hx.1.1, hx.1.2]
theorem three_cells {fuel : Nat} {cs : List Value} {zs : List Int} {p : List MemPlace} (h : DataW.trod enc Tryd.prog W base sp held fuel 57 cs = some (Lib.tabData .i64 zs, p)) : cs = zs.map fun z => Value.int .i64 z :=
  Lib.cells_of_tab Tryd.underlying57 Tryd.underlying3 k3 k57 h

/-- A row of rows. -/
theorem arr_cells {T e : TypeId} {n c : Nat} (hT : Tryd.prog.underlying T = some (.array n e)) (hc : Tryd.prog.cellsOf e = c) (hTc : Tryd.prog.cellsOf T = n * c) {fuel : Nat} {cs : List Value} {rows : List (DataW Unit × List Value)} {p : List MemPlace}
    (hel : ∀ i, i < n → ∀ m cs' q d vs, rows[i]? = some (d, vs) → cs'.length = c → DataW.trod enc Tryd.prog W base sp held m e cs' = some (d, q) → cs' = vs)
    (h : DataW.trod enc Tryd.prog W base sp held fuel T cs = some (.agg (rows.map (·.1)), p)) : ∀ i, i < n → ∃ d vs, rows[i]? = some (d, vs) ∧ (cs.drop (i * c)).take c = vs := by
  intro i hi
  obtain ⟨xs, m, _, hx, hl, hxl, hat⟩ := DataW.trod_array hT h
  have h1 := hat i hi
  rw [hc] at h1
  rw [hTc] at hl
  simp only [Prod.mk.injEq, DataW.agg.injEq] at hx
  obtain ⟨y, hy⟩ : ∃ y, xs[i]? = some y := ⟨_, List.getElem?_eq_getElem (by omega)⟩
  have hr : (rows.map (·.1))[i]? = some y.1 := by rw [hx.1]; simp [hy]
  rw [List.getElem?_map] at hr
  obtain ⟨⟨d, vs⟩, hd, hdy⟩ := Option.map_eq_some_iff.1 hr
  refine ⟨d, vs, hd, hel i hi m _ y.2 d vs hd ?_ ?_⟩
  · rw [List.length_take, List.length_drop, hl]
    have : i * c + c ≤ n * c := by rw [← Nat.succ_mul]; exact Nat.mul_le_mul_right c hi
    omega
  · rw [h1, hy]
    have e : d = y.1 := hdy
    rw [e]
end

def spanRows : List (DataW Unit × List Value) := (List.range 3).map fun k => (.agg [.lit (.int .i64 (glob4.getD (2 * k) 0)), .lit (.int .i64 (glob4.getD (2 * k + 1) 0))], [.int .i64 (glob4.getD (2 * k) 0), .int .i64 (glob4.getD (2 * k + 1) 0)])
def listRows : List (DataW Unit × List Value) := (List.range 23).map fun k => (Lib.tabData .i64 ((glob5.drop (3 * k)).take 3), ((glob5.drop (3 * k)).take 3).map fun z => Value.int .i64 z)
theorem span_rows : (Rows.laid_bodkin_ops_spans : DataW Unit) = .agg (spanRows.map (·.1)) := by kernel_rfl
theorem list_rows : (Rows.laid_bodkin_ops_lists : DataW Unit) = .agg (listRows.map (·.1)) := by kernel_rfl
theorem lists_flat (j : Nat) (h : j < 69) : (((glob5.drop (3 * (j / 3))).take 3).map fun z => Value.int .i64 z)[j % 3]? = some (.int .i64 (glob5.getD j 0)) := by
  have e : 3 * (j / 3) + j % 3 = j := by omega
  have hl : glob5.length = 69 := by decide
  rw [List.getElem?_map, List.getElem?_take_of_lt (by omega), List.getElem?_drop, e, List.getElem?_eq_getElem (by omega)]
  simp [List.getD_eq_getElem?_getD, List.getElem?_eq_getElem (show j < glob5.length by omega)]

theorem laid_flat {W : World} {name : String} {zs : List Int} {g n : Nat} {t : TypeId} {d : DataW Unit} (hg : Tryd.prog.globalNamed name = some g) (hty : (Tryd.prog.globals[g]?).map (·.type) = some t) (ht : Tryd.prog.underlying t = some (.array n 3)) (hct : Tryd.prog.cellsOf t = n)
    (hd : d = Lib.tabData .i64 zs) {rest : List (String × DataW Unit)} (h : laidMet Tryd.prog ((name, d) :: rest) W) (j : Nat) (hj : j < zs.length) : W.cell? ⟨g, j, none⟩ = some (.int .i64 (zs.getD j 0)) := by
  subst hd
  exact (Lib.tabIs_of_head hg hty ht Tryd.underlying3 k3 hct h).cell hg j hj

theorem of_laid {W : World} (h : laidMetH Tryd.prog LAID W) : Glob W := by
  rw [MakeChecks.laidMetH_plain _ _ _ (by kernel_rfl)] at h
  have H4 := h
  have H0 := h.tail
  have H1 := H0.tail
  have H2 := H1.tail
  have H3 := H2.tail
  have H5 := H3.tail
  clear h
  have C5 : ∀ j, j < 69 → W.cell? ⟨5, j, none⟩ = some (.int .i64 (glob5.getD j 0)) := by
    obtain ⟨ps, ⟨g, t, cs, fuel, p, q, hg, ht, hv, hd, _, _⟩, _⟩ := H5
    obtain rfl := Option.some.inj (g5.symm.trans hg)
    obtain rfl := Option.some.inj (y5.symm.trans ht)
    rw [list_rows] at hd
    have := arr_cells Tryd.underlying58 k57 (by kernel_rfl) (rows := listRows) (fun i hi m cs' q d vs hr _ htr => by
      rw [listRows, List.getElem?_map, List.getElem?_range hi] at hr
      simp only [Option.map_some, Option.some.injEq, Prod.mk.injEq] at hr
      obtain ⟨rfl, rfl⟩ := hr
      exact three_cells htr) hd
    intro j hj
    obtain ⟨d, vs, hr, he⟩ := this (j / 3) (by omega)
    rw [listRows, List.getElem?_map, List.getElem?_range (by omega)] at hr
    simp only [Option.map_some, Option.some.injEq, Prod.mk.injEq] at hr
    have h3 := lists_flat j hj
    rw [hr.2, ← he, List.getElem?_take_of_lt (by omega), List.getElem?_drop, show j / 3 * 3 + j % 3 = j by omega] at h3
    have := World.var?_cell hg hv j
    rw [this]
    simpa using h3
  have C4 : ∀ j, j < 6 → W.cell? ⟨4, j, none⟩ = some (.int .i64 (glob4.getD j 0)) := by
    obtain ⟨ps, ⟨g, t, cs, fuel, p, q, hg, ht, hv, hd, _, _⟩, _⟩ := H4
    obtain rfl := Option.some.inj (g4.symm.trans hg)
    obtain rfl := Option.some.inj (y4.symm.trans ht)
    rw [span_rows] at hd
    have := arr_cells Tryd.underlying53 k52 (by kernel_rfl) (rows := spanRows) (fun i hi m cs' q d vs hr hl htr => by
      rw [spanRows, List.getElem?_map, List.getElem?_range hi] at hr
      simp only [Option.map_some, Option.some.injEq, Prod.mk.injEq] at hr
      obtain ⟨rfl, rfl⟩ := hr
      exact pair_cells htr hl) hd
    intro j hj
    obtain ⟨d, vs, hr, he⟩ := this (j / 2) (by omega)
    rw [spanRows, List.getElem?_map, List.getElem?_range (by omega)] at hr
    simp only [Option.map_some, Option.some.injEq, Prod.mk.injEq] at hr
    have h3 : vs[j % 2]? = some (.int .i64 (glob4.getD j 0)) := by
      rw [← hr.2]
      rcases (by omega : j = 0 ∨ j = 1 ∨ j = 2 ∨ j = 3 ∨ j = 4 ∨ j = 5) with rfl | rfl | rfl | rfl | rfl | rfl <;> rfl
    rw [← he, List.getElem?_take_of_lt (by omega), List.getElem?_drop, show j / 2 * 2 + j % 2 = j by omega] at h3
    have := World.var?_cell hg hv j
    rw [this]
    simpa using h3
  refine ⟨?_, fun j hj => laid_flat (zs := glob0) g0 y0 Tryd.underlying46 (by kernel_rfl) (by kernel_rfl) H0 j hj, fun j hj => laid_flat (zs := glob1) g1 y1 Tryd.underlying47 (by kernel_rfl) (by kernel_rfl) H1 j hj,
    fun j hj => laid_flat (zs := glob2) g2 y2 Tryd.underlying48 (by kernel_rfl) (by kernel_rfl) H2 j hj, fun j hj => laid_flat (zs := glob3) g3 y3 Tryd.underlying49 (by kernel_rfl) (by kernel_rfl) H3 j hj, C4, C5⟩
  rcases Nat.lt_or_ge 5 W.heap.size with h | h
  · exact h
  · have := C5 0 (by omega)
    rw [World.cell?, Array.getElem?_eq_none h] at this
    cases this
end Go.Proofs.YtnechalhgdmgiaaDoor
