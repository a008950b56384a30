/-
  Laid, LVal: merged, what the law does not reach left out (each text says what it holds where it lies in wip). No condition.
-/
import Derived.Test.YtlhakbkdlgejpaaGreatDoorH03
import Derived.Test.YtlhakbkdlgejpaaGreatDoorRows
import Derived.ProofKit
import Derived.LaidMore
import Derived.OpenShut
import Derived.Lib.LaidTab
import Derived.ChangeSame
import Derived.Stop.LaidErr
import Derived.Test.YtlhakbkdlgejpaaGreatDoorH07
import Derived.Test.YtlhakbkdlgejpaaGreatDoorH06
import Derived.ChangeArms
set_option linter.unusedSimpArgs false
set_option linter.unusedVariables false
set_option maxRecDepth 100000
namespace Go.Proofs.YtlhakbkdlgejpaaGreatDoor
open Go.ChangeShapes Go.WideShapes Go.ChangeAt Go.WideMaps Go.WideElems Go.RowKit
theorem own : ownKnob Tryz.prog.godebug = none := by kernel_rfl
abbrev LAID : List (String × DataW Unit) := [("bodkin/ops.plainAligns", Rows.laid_bodkin_ops_plainAligns), ("bodkin/ops.vectorAligns", Rows.laid_bodkin_ops_vectorAligns), ("bodkin/ops.laneAligns", Rows.laid_bodkin_ops_laneAligns), ("bodkin/ops.laneCounts", Rows.laid_bodkin_ops_laneCounts), ("bodkin/ops.lists", Rows.laid_bodkin_ops_lists)]
set_option maxRecDepth 100000 in
theorem door_met (os : Os) (args : Array Value) : laidMetH Tryz.prog LAID ((World.doorLaid Tryz.prog 60 os).forCall (fun _ _ => 0) ⟨#[], args, []⟩).memory :=
  laidMetH_of_parts3 (fuel := 8) (laidMet_of_run' 8 (by kernel_rfl) (by kernel_rfl)) (by kernel_rfl) (by kernel_rfl)
theorem g0 : Tryz.prog.globalNamed "bodkin/ops.plainAligns" = some 3 := by kernel_rfl
theorem g1 : Tryz.prog.globalNamed "bodkin/ops.vectorAligns" = some 4 := by kernel_rfl
theorem g2 : Tryz.prog.globalNamed "bodkin/ops.laneAligns" = some 5 := by kernel_rfl
theorem g3 : Tryz.prog.globalNamed "bodkin/ops.laneCounts" = some 0 := by kernel_rfl
theorem g5 : Tryz.prog.globalNamed "bodkin/ops.lists" = some 1 := by kernel_rfl
theorem y0 : (Tryz.prog.globals[3]?).map (·.type) = some 131 := by kernel_rfl
theorem y1 : (Tryz.prog.globals[4]?).map (·.type) = some 132 := by kernel_rfl
theorem y2 : (Tryz.prog.globals[5]?).map (·.type) = some 133 := by kernel_rfl
theorem y3 : (Tryz.prog.globals[0]?).map (·.type) = some 106 := by kernel_rfl
theorem y5 : (Tryz.prog.globals[1]?).map (·.type) = some 108 := by kernel_rfl
theorem k3 : Tryz.prog.cellsOf 3 = 1 := by kernel_rfl
theorem k57 : Tryz.prog.cellsOf 107 = 3 := by kernel_rfl
section
variable {enc : TypeId × Value → Unit} {W : World} {base : Nat} {sp : Nat → Bool} {held : Bool}
theorem three_cells {fuel : Nat} {cs : List Value} {zs : List Int} {p : List MemPlace} (h : DataW.trod enc Tryz.prog W base sp held fuel 107 cs = some (Lib.tabData .i64 zs, p)) : cs = zs.map fun z => Value.int .i64 z :=
  Lib.cells_of_tab Tryz.underlying107 Tryz.underlying3 k3 k57 h
/-- A row of rows. -/
theorem arr_cells {T e : TypeId} {n c : Nat} (hT : Tryz.prog.underlying T = some (.array n e)) (hc : Tryz.prog.cellsOf e = c) (hTc : Tryz.prog.cellsOf T = n * c) {fuel : Nat} {cs : List Value} {rows : List (DataW Unit × List Value)} {p : List MemPlace}
    (hel : ∀ i, i < n → ∀ m cs' q d vs, rows[i]? = some (d, vs) → cs'.length = c → DataW.trod enc Tryz.prog W base sp held m e cs' = some (d, q) → cs' = vs)
    (h : DataW.trod enc Tryz.prog W base sp held fuel T cs = some (.agg (rows.map (·.1)), p)) : ∀ i, i < n → ∃ d vs, rows[i]? = some (d, vs) ∧ (cs.drop (i * c)).take c = vs := by
  intro i hi
  obtain ⟨xs, m, _, hx, hl, hxl, hat⟩ := DataW.trod_array hT h
  have h1 := hat i hi
  rw [hc] at h1
  rw [hTc] at hl
  simp only [Prod.mk.injEq, DataW.agg.injEq] at hx
  obtain ⟨y, hy⟩ : ∃ y, xs[i]? = some y := ⟨_, List.getElem?_eq_getElem (by omega)⟩
  have hr : (rows.map (·.1))[i]? = some y.1 := by rw [hx.1]; simp [hy]
  rw [List.getElem?_map] at hr
  obtain ⟨⟨d, vs⟩, hd, hdy⟩ := Option.map_eq_some_iff.1 hr
  refine ⟨d, vs, hd, hel i hi m _ y.2 d vs hd ?_ ?_⟩
  · rw [List.length_take, List.length_drop, hl]
    have : i * c + c ≤ n * c := by rw [← Nat.succ_mul]; exact Nat.mul_le_mul_right c hi
    omega
  · rw [h1, hy]
    have e : d = y.1 := hdy
    rw [e]
end
def listRows : List (DataW Unit × List Value) := (List.range 23).map fun k => (Lib.tabData .i64 ((glob5.drop (3 * k)).take 3), ((glob5.drop (3 * k)).take 3).map fun z => Value.int .i64 z)
theorem list_rows : (Rows.laid_bodkin_ops_lists : DataW Unit) = .agg (listRows.map (·.1)) := by kernel_rfl
theorem lists_flat (j : Nat) (h : j < 69) : (((glob5.drop (3 * (j / 3))).take 3).map fun z => Value.int .i64 z)[j % 3]? = some (.int .i64 (glob5.getD j 0)) := by
  have e : 3 * (j / 3) + j % 3 = j := by omega
  have hl : glob5.length = 69 := by decide
  rw [List.getElem?_map, List.getElem?_take_of_lt (by omega), List.getElem?_drop, e, List.getElem?_eq_getElem (by omega)]
  simp [List.getD_eq_getElem?_getD, List.getElem?_eq_getElem (show j < glob5.length by omega)]
theorem laid_flat {W : World} {name : String} {zs : List Int} {g n : Nat} {t : TypeId} {d : DataW Unit} (hg : Tryz.prog.globalNamed name = some g) (hty : (Tryz.prog.globals[g]?).map (·.type) = some t) (ht : Tryz.prog.underlying t = some (.array n 3)) (hct : Tryz.prog.cellsOf t = n)
    (hd : d = Lib.tabData .i64 zs) {rest : List (String × DataW Unit)} (h : laidMet Tryz.prog ((name, d) :: rest) W) (j : Nat) (hj : j < zs.length) : W.cell? ⟨g, j, none⟩ = some (.int .i64 (zs.getD j 0)) := by
  subst hd
  exact (Lib.tabIs_of_head hg hty ht Tryz.underlying3 k3 hct h).cell hg j hj
theorem of_laid {W : World} (h : laidMetH Tryz.prog LAID W) : Glob W := by
  rw [MakeChecks.laidMetH_plain _ _ _ (by kernel_rfl)] at h
  have H0 := h
  have H1 := H0.tail
  have H2 := H1.tail
  have H3 := H2.tail
  have H5 := H3.tail
  clear h
  have C5 : ∀ j, j < 69 → W.cell? ⟨1, j, none⟩ = some (.int .i64 (glob5.getD j 0)) := by
    obtain ⟨ps, ⟨g, t, cs, fuel, p, q, hg, ht, hv, hd, _, _⟩, _⟩ := H5
    obtain rfl := Option.some.inj (g5.symm.trans hg)
    obtain rfl := Option.some.inj (y5.symm.trans ht)
    rw [list_rows] at hd
    have := arr_cells Tryz.underlying108 k57 (by kernel_rfl) (rows := listRows) (fun i hi m cs' q d vs hr _ htr => by
      rw [listRows, List.getElem?_map, List.getElem?_range hi] at hr
      simp only [Option.map_some, Option.some.injEq, Prod.mk.injEq] at hr
      obtain ⟨rfl, rfl⟩ := hr
      exact three_cells htr) hd
    intro j hj
    obtain ⟨d, vs, hr, he⟩ := this (j / 3) (by omega)
    rw [listRows, List.getElem?_map, List.getElem?_range (by omega)] at hr
    simp only [Option.map_some, Option.some.injEq, Prod.mk.injEq] at hr
    have h3 := lists_flat j hj
    rw [hr.2, ← he, List.getElem?_take_of_lt (by omega), List.getElem?_drop, show j / 3 * 3 + j % 3 = j by omega] at h3
    have := World.var?_cell hg hv j
    rw [this]
    simpa using h3
  refine ⟨?_, fun j hj => laid_flat (zs := glob0) g0 y0 Tryz.underlying131 (by kernel_rfl) (by kernel_rfl) H0 j hj, fun j hj => laid_flat (zs := glob1) g1 y1 Tryz.underlying132 (by kernel_rfl) (by kernel_rfl) H1 j hj,
    fun j hj => laid_flat (zs := glob2) g2 y2 Tryz.underlying133 (by kernel_rfl) (by kernel_rfl) H2 j hj, fun j hj => laid_flat (zs := glob3) g3 y3 Tryz.underlying106 (by kernel_rfl) (by kernel_rfl) H3 j hj, C5⟩
  rcases Nat.lt_or_ge 5 W.heap.size with h | h
  · exact h
  · have := laid_flat (zs := glob2) g2 y2 Tryz.underlying133 (by kernel_rfl) (by kernel_rfl) H2 0 (by decide)
    rw [World.cell?, Array.getElem?_eq_none h] at this
    cases this
end Go.Proofs.YtlhakbkdlgejpaaGreatDoor
namespace Go.Proofs.YtlhakbkdlgejpaaGreatDoor
open Go.ChangeShapes Go.WideShapes Go.ChangeAt Go.WideMaps Go.WideElems Go.RowKit
theorem c24 : Tryz.prog.cellsOf 24 = 4 := by kernel_rfl
theorem c3 : Tryz.prog.cellsOf 3 = 1 := by kernel_rfl
theorem c22 : Tryz.prog.cellsOf 22 = 1 := by kernel_rfl
theorem c4 : Tryz.prog.cellsOf 4 = 1 := by kernel_rfl
theorem fields24 : ∃ f0 f1 f2 f3 : Field, Tryz.prog.underlying 24 = some (.struct #[f0, f1, f2, f3]) ∧ f0.type = 3 ∧ f1.type = 22 ∧ f2.type = 22 ∧ f3.type = 4 ∧ f0.offset = 0 ∧ f1.offset = 1 ∧ f2.offset = 2 ∧ f3.offset = 3 := ⟨_, _, _, _, Tryz.underlying24, rfl, rfl, rfl, rfl, rfl, rfl, rfl, rfl⟩
set_option maxRecDepth 100000 in
theorem open_val {H : Type} {enc : TypeId × Value → H} {W : World} {base b0 : Nat} {sp : Nat → Bool} {held : Bool} {r : Reach} {v : Value} {d : DataW H} {ps : List MemPlace}
    (hv : Value.okWide Tryz.prog W r b0 24 v) (hd : DataW.Trod enc Tryz.prog W base sp held 24 v d ps) :
    ∃ (ta : Int) (alo ahi : Nat) (anl : Bool), v = vv ta alo ahi anl ∧ alo < 18446744073709551616 ∧ ahi < 18446744073709551616 ∧ ps = [] ∧ ∀ W' sp', DataW.Trod enc Tryz.prog W' base sp' held 24 v d [] := by
  obtain ⟨f0, f1, f2, f3, hu, t0, t1, t2, t3, o0, o1, o2, o3⟩ := fields24
  obtain ⟨cs, rfl, hs⟩ := okWide_struct hu hv
  rw [c24] at hs
  obtain ⟨l, rfl⟩ : ∃ l : List Value, cs = l.toArray := ⟨cs.toList, by simp⟩
  have hs' : l.length = 4 := by simpa using hs
  obtain ⟨x0, x1, x2, x3, rfl⟩ : ∃ x0 x1 x2 x3, l = [x0, x1, x2, x3] := by
    match l, hs' with
    | [x0, x1, x2, x3], _ => exact ⟨_, _, _, _, rfl⟩
  obtain ⟨fuel, hf⟩ := hd
  have hf' : DataW.trod enc Tryz.prog W base sp held fuel 24 [x0, x1, x2, x3] = some (d, ps) := hf
  obtain ⟨xs, n, _, hx, hl, hlen, hat⟩ := DataW.trod_struct hu hf'
  obtain ⟨y0, y1, y2, y3, rfl⟩ : ∃ y0 y1 y2 y3, xs = [y0, y1, y2, y3] := by
    match xs, hlen with
    | [y0, y1, y2, y3], _ => exact ⟨_, _, _, _, rfl⟩
  have h0 := hat 0 f0 rfl
  have h1 := hat 1 f1 rfl
  have h2 := hat 2 f2 rfl
  have h3 := hat 3 f3 rfl
  rw [t0, o0, c3] at h0
  rw [t1, o1, c22] at h1
  rw [t2, o2, c22] at h2
  rw [t3, o3, c4] at h3
  obtain ⟨z0, e0, g0, w0⟩ := DataW.trod_int Tryz.underlying3 h0
  obtain ⟨z1, e1, g1, w1⟩ := DataW.trod_int Tryz.underlying22 h1
  obtain ⟨z2, e2, g2, w2⟩ := DataW.trod_int Tryz.underlying22 h2
  obtain ⟨z3, e3, g3⟩ := DataW.trod_bool Tryz.underlying4 h3
  obtain rfl : x0 = .int .i64 z0 := by simpa using e0
  obtain rfl : x1 = .int .u64 z1 := by simpa using e1
  obtain rfl : x2 = .int .u64 z2 := by simpa using e2
  obtain rfl : x3 = .bool z3 := by simpa using e3
  obtain ⟨b1, b2⟩ := bounds_u64 w1
  obtain ⟨b3, b4⟩ := bounds_u64 w2
  obtain ⟨alo, rfl⟩ := Int.eq_ofNat_of_zero_le b1
  obtain ⟨ahi, rfl⟩ := Int.eq_ofNat_of_zero_le b3
  subst g0 g1 g2 g3
  obtain ⟨rfl, rfl⟩ := Prod.mk.inj hx
  refine ⟨z0, alo, ahi, z3, rfl, by omega, by omega, rfl, fun W' sp' => ⟨2, ?_⟩⟩
  show DataW.trod enc Tryz.prog W' base sp' held 2 24 [.int .i64 z0, .int .u64 alo, .int .u64 ahi, .bool z3] = _
  refine trod_struct_mk (n := 1) (xs := [(.lit (.int .i64 z0), []), (.lit (.int .u64 alo), []), (.lit (.int .u64 ahi), []), (.lit (.bool z3), [])]) hu (by rw [c24]; rfl) ?_
  have k0 : DataW.trod enc Tryz.prog W' base sp' held 1 f0.type (([.int .i64 z0, .int .u64 alo, .int .u64 ahi, .bool z3].drop f0.offset).take (Tryz.prog.cellsOf f0.type)) = some (.lit (.int .i64 z0), []) := by
    rw [t0, o0, c3]; exact trod_int_mk 0 Tryz.underlying3 w0
  have k1 : DataW.trod enc Tryz.prog W' base sp' held 1 f1.type (([.int .i64 z0, .int .u64 alo, .int .u64 ahi, .bool z3].drop f1.offset).take (Tryz.prog.cellsOf f1.type)) = some (.lit (.int .u64 alo), []) := by
    rw [t1, o1, c22]; exact trod_int_mk 0 Tryz.underlying22 w1
  have k2 : DataW.trod enc Tryz.prog W' base sp' held 1 f2.type (([.int .i64 z0, .int .u64 alo, .int .u64 ahi, .bool z3].drop f2.offset).take (Tryz.prog.cellsOf f2.type)) = some (.lit (.int .u64 ahi), []) := by
    rw [t2, o2, c22]; exact trod_int_mk 0 Tryz.underlying22 w2
  have k3 : DataW.trod enc Tryz.prog W' base sp' held 1 f3.type (([.int .i64 z0, .int .u64 alo, .int .u64 ahi, .bool z3].drop f3.offset).take (Tryz.prog.cellsOf f3.type)) = some (.lit (.bool z3), []) := by
    rw [t3, o3, c4]; simp [DataW.trod, Tryz.underlying4]
  simp [k0, k1, k2, k3]
end Go.Proofs.YtlhakbkdlgejpaaGreatDoor
