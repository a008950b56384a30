/-
  LAwakeC, Laid, LVal: merged (each text says what it holds where it lies in wip). No condition.
-/
import Derived.Test.YtlhakbkdlgejpaaGreatDoorL12
import Derived.Test.YtlhakbkdlgejpaaGreatDoorB02
import Derived.Test.YtlhakbkdlgejpaaGreatDoorRows
import Derived.ProofKit
import Derived.LaidMore
import Derived.OpenShut
import Derived.Lib.LaidTab
import Derived.ChangeSame
import Derived.Stop.LaidErr
import Derived.Test.YtlhakbkdlgejpaaGreatDoorL06
import Derived.Test.YtlhakbkdlgejpaaGreatDoorL04
import Derived.ChangeArms
set_option linter.unusedSimpArgs false
set_option linter.unusedVariables false
set_option maxRecDepth 100000
namespace Go.Proofs.YtlhakbkdlgejpaaGreatDoor
open Go.RowKit

theorem chkBin_c (op : Int) (h : chkBin op = true) : chkC true op = true ∧ chkI op = true := by
  unfold chkBin at h
  simp only [Bool.and_eq_true] at h
  exact ⟨h.1.1.1.1.1.1.1.1, h.1.1.1.1.1.1.1.2⟩
theorem chkRel_c (op : Int) (h : chkRel op = true) : chkC true op = true ∧ chkI op = true := by
  unfold chkRel at h
  simp only [Bool.and_eq_true] at h
  exact ⟨h.1.1.1.1.1, h.1.1.1.1.2⟩
theorem chkUn_c (op : Int) (h : chkUn op = true) : chkC false op = true ∧ chkI op = true := by
  unfold chkUn at h
  simp only [Bool.and_eq_true] at h
  exact ⟨h.1.1, h.1.2⟩
theorem and_1023 (a : Int) : ∃ K : Nat, K ≤ 1023 ∧ bits .and .i64 a 1023 = (K : Int) := by
  refine ⟨(BitVec.ofInt 64 a).toNat &&& 1023, Nat.and_le_right, ?_⟩
  have hle : (BitVec.ofInt 64 a).toNat &&& 1023 ≤ 1023 := Nat.and_le_right
  have e2 : BitVec.toNat (BitVec.ofInt 64 1023) = 1023 := by decide
  show IntKind.i64.wrap ((BitVec.ofInt 64 a &&& BitVec.ofInt 64 1023).toNat : Int) = _
  rw [BitVec.toNat_and, e2, IntKind.wrap_i64]
  generalize (BitVec.ofInt 64 a).toNat &&& 1023 = q at *
  omega
theorem row16 (w : World) : RowAt (w.alloc (.cells #[.int .u64 200, .int .u64 200, .int .u64 200, .int .u64 200, .int .u64 200, .int .u64 200, .int .u64 200, .int .u64 200, .int .u64 200, .int .u64 200, .int .u64 200, .int .u64 200, .int .u64 200, .int .u64 200, .int .u64 200, .int .u64 200] 22)) (.slice (some ⟨w.heap.size, 0, none⟩) 16 16) 16 (fun _ => 200) := by
  have h := CA.new w #[.int .u64 200, .int .u64 200, .int .u64 200, .int .u64 200, .int .u64 200, .int .u64 200, .int .u64 200, .int .u64 200, .int .u64 200, .int .u64 200, .int .u64 200, .int .u64 200, .int .u64 200, .int .u64 200, .int .u64 200, .int .u64 200] 22
  refine ⟨_, 0, 16, rfl, h.lt, Nat.le_refl _, fun j hj => ?_⟩
  rw [Nat.zero_add]
  refine ⟨h.at (k := j) ?_, h.free j⟩
  rcases (show j = 0 ∨ j = 1 ∨ j = 2 ∨ j = 3 ∨ j = 4 ∨ j = 5 ∨ j = 6 ∨ j = 7 ∨ j = 8 ∨ j = 9 ∨ j = 10 ∨ j = 11 ∨ j = 12 ∨ j = 13 ∨ j = 14 ∨ j = 15 by omega) with rfl | rfl | rfl | rfl | rfl | rfl | rfl | rfl | rfl | rfl | rfl | rfl | rfl | rfl | rfl | rfl <;> rfl
theorem ar_two (w : World) (alo ahi blo bhi : Nat) (T : TypeId) : AR (w.alloc (.cells #[.int .i64 123, .int .u64 (alo : Nat), .int .u64 (ahi : Nat), .bool false, .int .i64 123, .int .u64 (blo : Nat), .int .u64 (bhi : Nat), .bool false] T)) (.slice (some ⟨w.heap.size, 0, none⟩) 2 2) [(123, alo, ahi, false), (123, blo, bhi, false)] := by
  have h := CA.new w #[.int .i64 123, .int .u64 (alo : Nat), .int .u64 (ahi : Nat), .bool false, .int .i64 123, .int .u64 (blo : Nat), .int .u64 (bhi : Nat), .bool false] T
  refine ⟨_, 2, rfl, h.lt, Nat.le_refl _, fun j c hj => ?_⟩
  match j, hj with
  | 0, hj =>
    obtain rfl : (123, alo, ahi, false) = c := by simpa using hj
    exact ⟨h.at (k := 0) rfl, h.at (k := 1) rfl, h.at (k := 2) rfl, h.at (k := 3) rfl⟩
  | 1, hj =>
    obtain rfl : (123, blo, bhi, false) = c := by simpa using hj
    exact ⟨h.at (k := 4) rfl, h.at (k := 5) rfl, h.at (k := 6) rfl, h.at (k := 7) rfl⟩
  | j + 2, hj => simp at hj
set_option maxHeartbeats 4000000 in
set_option maxRecDepth 100000 in
theorem awake_says (w : World) (hg : Glob w) : Calls Tryz.prog 19 #[] w fun e w' => e = .returned (.bool true) ∧ Below w.heap.size w w' := by
  have HS : ∀ W, Hid (Calls Tryz.prog 28 #[.int .i64 32, .agg #[.int .i64 0, .int .u64 4294967297, .int .u64 3, .bool false]] W (LPost W 4 (splitF 32 4294967297 3))) := fun W => hid (Split_says 32 (by right; right; left; rfl) 0 4294967297 3 false (by decide) (by decide) W)
  have hJ1 : loF 8 (fun _ => 200) = 14468034567615334600 := by decide +kernel
  have hJ2 : hiF 8 (fun _ => 200) = 14468034567615334600 := by decide +kernel
  have HJ : ∀ W v, RowAt W v 16 (fun _ => 200) → Hid (Calls Tryz.prog 29 #[.int .i64 8, v] W fun e w' => e = .returned (.tuple #[.agg #[.int .i64 123, .int .u64 14468034567615334600, .int .u64 14468034567615334600, .bool false], .int .i64 0]) ∧ Below W.heap.size W w') := fun W v h => by
    have H := Join_says 8 (by left; rfl) v (fun _ => 200) W h (fun _ _ => by decide)
    rw [hJ1, hJ2] at H
    exact hid H
  have HD : ∀ W, Glob W → ∀ va, AR W va [(123, 14468034567615334600, 14468034567615334600, false), (123, 100, 56, false)] → Hid (Calls Tryz.prog 20 #[.int .i64 64878, .slice none 0 0, va] W fun e w' => e = .returned (.tuple #[.agg #[.int .i64 123, .int .u64 14468034567615334444, .int .u64 14468034567615334400, .bool false], .int .i64 0]) ∧ Below W.heap.size W w') := fun W h va ha => hid (Do_awake W h va ha)
  have HL : ∀ vi va W, Hid (Calls Tryz.prog 20 #[.int .i64 106, vi, va] W fun e w' => e = .returned (.tuple #[.agg #[.int .i64 0, .int .u64 0, .int .u64 0, .bool false], .int .i64 1]) ∧ Below W.heap.size W w') := fun vi va W => hid (Do_low 106 (by decide) vi va W)
  have HG := hid hg
  clear hJ1 hJ2 hg
  go_enter Tryz.func19, Tryz.ntmps19
  go_upto_region 2 with (go_at_call 28; (with_reducible refine (HS _).out.mono ?_); rintro e w1 ⟨v1, rfl, ho1, hb1⟩; have HO1 := hid ho1; have HB1 := hid hb1; clear ho1 hb1)
  obtain ⟨g1, c1, rfl⟩ : ∃ g cap, v1 = .slice (some ⟨g, 0, none⟩) 4 cap := owned_at HO1.out (by decide)
  have k0 : w1.cell? ⟨g1, 0, none⟩ = some (.int .u64 1) := HO1.out.cellAt 0 (by decide)
  have k2 : w1.cell? ⟨g1, 2, none⟩ = some (.int .u64 3) := HO1.out.cellAt 2 (by decide)
  have hg1 : g1 < w1.heap.size := (HO1.out.lt g1 rfl).2
  clear HO1 HS
  have HJ1 := HJ _ _ (row16 w1)
  clear HJ
  go_upto_region 3 with (go_at_call 29; (with_reducible refine HJ1.out.mono ?_); rintro e w2 ⟨rfl, hb2⟩; have HN2 := hid (below_new hb2); clear hb2)
  have hB2 : Below w.heap.size w w2 := HB1.out.trans (HN2.out.2.mono HB1.out.size)
  have k02 := (HN2.out.2.cell (p := ⟨g1, 0, none⟩) hg1).trans k0
  have k22 := (HN2.out.2.cell (p := ⟨g1, 2, none⟩) hg1).trans k2
  have hg2 : g1 < w2.heap.size := Nat.lt_of_lt_of_le hg1 HN2.out.2.size
  have HG3 := hid (HG.out.next (hB2.alloc hB2.size (.cells #[.int .i64 123, .int .u64 14468034567615334600, .int .u64 14468034567615334600, .bool false] 24)))
  have HB3 := hid (hB2.alloc hB2.size (.cells #[.int .i64 123, .int .u64 14468034567615334600, .int .u64 14468034567615334600, .bool false] 24))
  have hC3 := CA.new w2 #[.int .i64 123, .int .u64 14468034567615334600, .int .u64 14468034567615334600, .bool false] 24
  have k03 := (((Below.refl _ w2).alloc (Nat.le_refl _) (.cells #[.int .i64 123, .int .u64 14468034567615334600, .int .u64 14468034567615334600, .bool false] 24)).cell (p := ⟨g1, 0, none⟩) hg2).trans k02
  have k23 := (((Below.refl _ w2).alloc (Nat.le_refl _) (.cells #[.int .i64 123, .int .u64 14468034567615334600, .int .u64 14468034567615334600, .bool false] 24)).cell (p := ⟨g1, 2, none⟩) hg2).trans k22
  have hg3 : g1 < (w2.alloc (.cells #[.int .i64 123, .int .u64 14468034567615334600, .int .u64 14468034567615334600, .bool false] 24)).heap.size := by rw [size_al]; omega
  generalize w2.alloc (.cells #[.int .i64 123, .int .u64 14468034567615334600, .int .u64 14468034567615334600, .bool false] 24) = W3 at *
  generalize w2.heap.size = g2 at *
  clear k0 k2 k02 k22 hg1 hg2 HN2 hB2 HJ1 HB1
  have a0 := hC3.at (k := 0) (v := .int .i64 123) rfl
  have a1 := hC3.at (k := 1) (v := .int .u64 14468034567615334600) rfl
  have a2 := hC3.at (k := 2) (v := .int .u64 14468034567615334600) rfl
  have a3 := hC3.at (k := 3) (v := .bool false) rfl
  have HD1 := HD _ (HG.out.next (HB3.out.alloc HB3.out.size (.cells #[.int .i64 123, .int .u64 14468034567615334600, .int .u64 14468034567615334600, .bool false, .int .i64 123, .int .u64 100, .int .u64 56, .bool false] 24))) _ (ar_two W3 14468034567615334600 14468034567615334600 100 56 24)
  have HBB := hid (HB3.out.alloc HB3.out.size (.cells #[.int .i64 123, .int .u64 14468034567615334600, .int .u64 14468034567615334600, .bool false, .int .i64 123, .int .u64 100, .int .u64 56, .bool false] 24))
  have kk := fun o => (((Below.refl _ W3).alloc (Nat.le_refl _) o).cell (p := ⟨g1, 0, none⟩) hg3).trans k03
  have kk2 := fun o => (((Below.refl _ W3).alloc (Nat.le_refl _) o).cell (p := ⟨g1, 2, none⟩) hg3).trans k23
  have hsz3 : ∀ o, g1 < (W3.alloc o).heap.size := fun o => by rw [size_al]; omega
  clear HD
  go_upto_region 4 with (go_at_call 20; (with_reducible refine HD1.out.mono ?_); rintro e w4 ⟨rfl, hb4⟩; have HN4 := hid hb4; clear hb4)
  have HB4 := hid (HBB.out.trans (HN4.out.mono HBB.out.size))
  have p0 := (HN4.out.cell (p := ⟨g1, 0, none⟩) (hsz3 _)).trans (kk _)
  have p2 := (HN4.out.cell (p := ⟨g1, 2, none⟩) (hsz3 _)).trans (kk2 _)
  have hg4 : g1 < w4.heap.size := Nat.lt_of_lt_of_le (hsz3 _) HN4.out.size
  have HB5 := hid (HB4.out.alloc HB4.out.size (.cells #[.int .i64 123, .int .u64 14468034567615334444, .int .u64 14468034567615334400, .bool false] 24))
  have HC5 := hid (CA.new w4 #[.int .i64 123, .int .u64 14468034567615334444, .int .u64 14468034567615334400, .bool false] 24)
  have q0 := (((Below.refl _ w4).alloc (Nat.le_refl _) (.cells #[.int .i64 123, .int .u64 14468034567615334444, .int .u64 14468034567615334400, .bool false] 24)).cell (p := ⟨g1, 0, none⟩) hg4).trans p0
  have q2 := (((Below.refl _ w4).alloc (Nat.le_refl _) (.cells #[.int .i64 123, .int .u64 14468034567615334444, .int .u64 14468034567615334400, .bool false] 24)).cell (p := ⟨g1, 2, none⟩) hg4).trans p2
  have hg5 : g1 < (w4.alloc (.cells #[.int .i64 123, .int .u64 14468034567615334444, .int .u64 14468034567615334400, .bool false] 24)).heap.size := by rw [size_al]; omega
  clear kk kk2 hsz3 HD1 HN4 HBB p0 p2 hg4 k03 k23 a0 a1 a2 a3 hC3 hg3 HB3 HG3
  generalize w4.alloc (.cells #[.int .i64 123, .int .u64 14468034567615334444, .int .u64 14468034567615334400, .bool false] 24) = W5 at *
  generalize w4.heap.size = g4 at *
  clear HB4
  have HL1 := HL (.slice none 0 0) (.slice none 0 0) W5
  clear HL
  go_upto_region 5 with (go_at_call 20; (with_reducible refine HL1.out.mono ?_); rintro e w6 ⟨rfl, hb6⟩; have HN6 := hid hb6; clear hb6)
  have HB6 := hid (HB5.out.trans (HN6.out.mono HB5.out.size))
  have HB7 := hid (HB6.out.alloc HB6.out.size (.cells #[.int .i64 0, .int .u64 0, .int .u64 0, .bool false] 24))
  have HC7 := hid ((HC5.out.call HN6.out).alloc (.cells #[.int .i64 0, .int .u64 0, .int .u64 0, .bool false] 24))
  have r0 := (((Below.refl _ w6).alloc (Nat.le_refl _) (.cells #[.int .i64 0, .int .u64 0, .int .u64 0, .bool false] 24)).cell (p := ⟨g1, 0, none⟩) (Nat.lt_of_lt_of_le hg5 HN6.out.size)).trans ((HN6.out.cell (p := ⟨g1, 0, none⟩) hg5).trans q0)
  have r2 := (((Below.refl _ w6).alloc (Nat.le_refl _) (.cells #[.int .i64 0, .int .u64 0, .int .u64 0, .bool false] 24)).cell (p := ⟨g1, 2, none⟩) (Nat.lt_of_lt_of_le hg5 HN6.out.size)).trans ((HN6.out.cell (p := ⟨g1, 2, none⟩) hg5).trans q2)
  clear q0 q2 hg5 HB6 HB5 HC5 HL1 HN6
  generalize w6.alloc (.cells #[.int .i64 0, .int .u64 0, .int .u64 0, .bool false] 24) = W7 at *
  have t0 := HC7.out.at (k := 0) (v := .int .i64 123) rfl
  have t1 := HC7.out.at (k := 1) (v := .int .u64 14468034567615334444) rfl
  have t2 := HC7.out.at (k := 2) (v := .int .u64 14468034567615334400) rfl
  clear HG HC7
  go_upto_region 6 with fail
  go_wp2
  go_ret
  exact ⟨rfl, HB7.out⟩
end Go.Proofs.YtlhakbkdlgejpaaGreatDoor
namespace Go.Proofs.YtlhakbkdlgejpaaGreatDoor
open Go.ChangeShapes Go.WideShapes Go.ChangeAt Go.WideMaps Go.WideElems Go.RowKit

theorem own : ownKnob Tryz.prog.godebug = none := by kernel_rfl

abbrev LAID : List (String × DataW Unit) := [("bodkin/ops.plainAligns", Rows.laid_bodkin_ops_plainAligns), ("bodkin/ops.vectorAligns", Rows.laid_bodkin_ops_vectorAligns), ("bodkin/ops.laneAligns", Rows.laid_bodkin_ops_laneAligns), ("bodkin/ops.laneCounts", Rows.laid_bodkin_ops_laneCounts), ("bodkin/ops.lists", Rows.laid_bodkin_ops_lists)]

set_option maxRecDepth 100000 in
theorem door_met (os : Os) (args : Array Value) : laidMetH Tryz.prog LAID ((World.doorLaid Tryz.prog 60 os).forCall (fun _ _ => 0) ⟨#[], args, []⟩).memory :=
  laidMetH_of_parts3 (fuel := 8) (laidMet_of_run' 8 (by kernel_rfl) (by kernel_rfl)) (by kernel_rfl) (by kernel_rfl)

theorem g0 : Tryz.prog.globalNamed "bodkin/ops.plainAligns" = some 3 := by kernel_rfl
theorem g1 : Tryz.prog.globalNamed "bodkin/ops.vectorAligns" = some 4 := by kernel_rfl
theorem g2 : Tryz.prog.globalNamed "bodkin/ops.laneAligns" = some 5 := by kernel_rfl
theorem g3 : Tryz.prog.globalNamed "bodkin/ops.laneCounts" = some 0 := by kernel_rfl
theorem g5 : Tryz.prog.globalNamed "bodkin/ops.lists" = some 1 := by kernel_rfl
theorem y0 : (Tryz.prog.globals[3]?).map (·.type) = some 131 := by kernel_rfl
theorem y1 : (Tryz.prog.globals[4]?).map (·.type) = some 132 := by kernel_rfl
theorem y2 : (Tryz.prog.globals[5]?).map (·.type) = some 133 := by kernel_rfl
theorem y3 : (Tryz.prog.globals[0]?).map (·.type) = some 106 := by kernel_rfl
theorem y5 : (Tryz.prog.globals[1]?).map (·.type) = some 108 := by kernel_rfl
theorem k3 : Tryz.prog.cellsOf 3 = 1 := by kernel_rfl
theorem k57 : Tryz.prog.cellsOf 107 = 3 := by kernel_rfl

section
variable {enc : TypeId × Value → Unit} {W : World} {base : Nat} {sp : Nat → Bool} {held : Bool}

theorem three_cells {fuel : Nat} {cs : List Value} {zs : List Int} {p : List MemPlace} (h : DataW.trod enc Tryz.prog W base sp held fuel 107 cs = some (Lib.tabData .i64 zs, p)) : cs = zs.map fun z => Value.int .i64 z :=
  Lib.cells_of_tab Tryz.underlying107 Tryz.underlying3 k3 k57 h

/-- A row of rows. -/
theorem arr_cells {T e : TypeId} {n c : Nat} (hT : Tryz.prog.underlying T = some (.array n e)) (hc : Tryz.prog.cellsOf e = c) (hTc : Tryz.prog.cellsOf T = n * c) {fuel : Nat} {cs : List Value} {rows : List (DataW Unit × List Value)} {p : List MemPlace}
    (hel : ∀ i, i < n → ∀ m cs' q d vs, rows[i]? = some (d, vs) → cs'.length = c → DataW.trod enc Tryz.prog W base sp held m e cs' = some (d, q) → cs' = vs)
    (h : DataW.trod enc Tryz.prog W base sp held fuel T cs = some (.agg (rows.map (·.1)), p)) : ∀ i, i < n → ∃ d vs, rows[i]? = some (d, vs) ∧ (cs.drop (i * c)).take c = vs := by
  intro i hi
  obtain ⟨xs, m, _, hx, hl, hxl, hat⟩ := DataW.trod_array hT h
  have h1 := hat i hi
  rw [hc] at h1
  rw [hTc] at hl
  simp only [Prod.mk.injEq, DataW.agg.injEq] at hx
  obtain ⟨y, hy⟩ : ∃ y, xs[i]? = some y := ⟨_, List.getElem?_eq_getElem (by omega)⟩
  have hr : (rows.map (·.1))[i]? = some y.1 := by rw [hx.1]; simp [hy]
  rw [List.getElem?_map] at hr
  obtain ⟨⟨d, vs⟩, hd, hdy⟩ := Option.map_eq_some_iff.1 hr
  refine ⟨d, vs, hd, hel i hi m _ y.2 d vs hd ?_ ?_⟩
  · rw [List.length_take, List.length_drop, hl]
    have : i * c + c ≤ n * c := by rw [← Nat.succ_mul]; exact Nat.mul_le_mul_right c hi
    omega
  · rw [h1, hy]
    have e : d = y.1 := hdy
    rw [e]
end

def listRows : List (DataW Unit × List Value) := (List.range 23).map fun k => (Lib.tabData .i64 ((glob5.drop (3 * k)).take 3), ((glob5.drop (3 * k)).take 3).map fun z => Value.int .i64 z)
theorem list_rows : (Rows.laid_bodkin_ops_lists : DataW Unit) = .agg (listRows.map (·.1)) := by kernel_rfl
theorem lists_flat (j : Nat) (h : j < 69) : (((glob5.drop (3 * (j / 3))).take 3).map fun z => Value.int .i64 z)[j % 3]? = some (.int .i64 (glob5.getD j 0)) := by
  have e : 3 * (j / 3) + j % 3 = j := by omega
  have hl : glob5.length = 69 := by decide
  rw [List.getElem?_map, List.getElem?_take_of_lt (by omega), List.getElem?_drop, e, List.getElem?_eq_getElem (by omega)]
  simp [List.getD_eq_getElem?_getD, List.getElem?_eq_getElem (show j < glob5.length by omega)]

theorem laid_flat {W : World} {name : String} {zs : List Int} {g n : Nat} {t : TypeId} {d : DataW Unit} (hg : Tryz.prog.globalNamed name = some g) (hty : (Tryz.prog.globals[g]?).map (·.type) = some t) (ht : Tryz.prog.underlying t = some (.array n 3)) (hct : Tryz.prog.cellsOf t = n)
    (hd : d = Lib.tabData .i64 zs) {rest : List (String × DataW Unit)} (h : laidMet Tryz.prog ((name, d) :: rest) W) (j : Nat) (hj : j < zs.length) : W.cell? ⟨g, j, none⟩ = some (.int .i64 (zs.getD j 0)) := by
  subst hd
  exact (Lib.tabIs_of_head hg hty ht Tryz.underlying3 k3 hct h).cell hg j hj

theorem of_laid {W : World} (h : laidMetH Tryz.prog LAID W) : Glob W := by
  rw [MakeChecks.laidMetH_plain _ _ _ (by kernel_rfl)] at h
  have H0 := h
  have H1 := H0.tail
  have H2 := H1.tail
  have H3 := H2.tail
  have H5 := H3.tail
  clear h
  have C5 : ∀ j, j < 69 → W.cell? ⟨1, j, none⟩ = some (.int .i64 (glob5.getD j 0)) := by
    obtain ⟨ps, ⟨g, t, cs, fuel, p, q, hg, ht, hv, hd, _, _⟩, _⟩ := H5
    obtain rfl := Option.some.inj (g5.symm.trans hg)
    obtain rfl := Option.some.inj (y5.symm.trans ht)
    rw [list_rows] at hd
    have := arr_cells Tryz.underlying108 k57 (by kernel_rfl) (rows := listRows) (fun i hi m cs' q d vs hr _ htr => by
      rw [listRows, List.getElem?_map, List.getElem?_range hi] at hr
      simp only [Option.map_some, Option.some.injEq, Prod.mk.injEq] at hr
      obtain ⟨rfl, rfl⟩ := hr
      exact three_cells htr) hd
    intro j hj
    obtain ⟨d, vs, hr, he⟩ := this (j / 3) (by omega)
    rw [listRows, List.getElem?_map, List.getElem?_range (by omega)] at hr
    simp only [Option.map_some, Option.some.injEq, Prod.mk.injEq] at hr
    have h3 := lists_flat j hj
    rw [hr.2, ← he, List.getElem?_take_of_lt (by omega), List.getElem?_drop, show j / 3 * 3 + j % 3 = j by omega] at h3
    have := World.var?_cell hg hv j
    rw [this]
    simpa using h3
  refine ⟨?_, fun j hj => laid_flat (zs := glob0) g0 y0 Tryz.underlying131 (by kernel_rfl) (by kernel_rfl) H0 j hj, fun j hj => laid_flat (zs := glob1) g1 y1 Tryz.underlying132 (by kernel_rfl) (by kernel_rfl) H1 j hj,
    fun j hj => laid_flat (zs := glob2) g2 y2 Tryz.underlying133 (by kernel_rfl) (by kernel_rfl) H2 j hj, fun j hj => laid_flat (zs := glob3) g3 y3 Tryz.underlying106 (by kernel_rfl) (by kernel_rfl) H3 j hj, C5⟩
  rcases Nat.lt_or_ge 5 W.heap.size with h | h
  · exact h
  · have := laid_flat (zs := glob2) g2 y2 Tryz.underlying133 (by kernel_rfl) (by kernel_rfl) H2 0 (by decide)
    rw [World.cell?, Array.getElem?_eq_none h] at this
    cases this
end Go.Proofs.YtlhakbkdlgejpaaGreatDoor
namespace Go.Proofs.YtlhakbkdlgejpaaGreatDoor
open Go.ChangeShapes Go.WideShapes Go.ChangeAt Go.WideMaps Go.WideElems Go.RowKit

theorem c24 : Tryz.prog.cellsOf 24 = 4 := by kernel_rfl
theorem c3 : Tryz.prog.cellsOf 3 = 1 := by kernel_rfl
theorem c22 : Tryz.prog.cellsOf 22 = 1 := by kernel_rfl
theorem c4 : Tryz.prog.cellsOf 4 = 1 := by kernel_rfl
theorem fields24 : ∃ f0 f1 f2 f3 : Field, Tryz.prog.underlying 24 = some (.struct #[f0, f1, f2, f3]) ∧ f0.type = 3 ∧ f1.type = 22 ∧ f2.type = 22 ∧ f3.type = 4 ∧ f0.offset = 0 ∧ f1.offset = 1 ∧ f2.offset = 2 ∧ f3.offset = 3 := ⟨_, _, _, _, Tryz.underlying24, rfl, rfl, rfl, rfl, rfl, rfl, rfl, rfl⟩

set_option maxRecDepth 100000 in
theorem open_val {H : Type} {enc : TypeId × Value → H} {W : World} {base b0 : Nat} {sp : Nat → Bool} {held : Bool} {r : Reach} {v : Value} {d : DataW H} {ps : List MemPlace}
    (hv : Value.okWide Tryz.prog W r b0 24 v) (hd : DataW.Trod enc Tryz.prog W base sp held 24 v d ps) :
    ∃ (ta : Int) (alo ahi : Nat) (anl : Bool), v = vv ta alo ahi anl ∧ alo < 18446744073709551616 ∧ ahi < 18446744073709551616 ∧ ps = [] ∧ ∀ W' sp', DataW.Trod enc Tryz.prog W' base sp' held 24 v d [] := by
  obtain ⟨f0, f1, f2, f3, hu, t0, t1, t2, t3, o0, o1, o2, o3⟩ := fields24
  obtain ⟨cs, rfl, hs⟩ := okWide_struct hu hv
  rw [c24] at hs
  obtain ⟨l, rfl⟩ : ∃ l : List Value, cs = l.toArray := ⟨cs.toList, by simp⟩
  have hs' : l.length = 4 := by simpa using hs
  obtain ⟨x0, x1, x2, x3, rfl⟩ : ∃ x0 x1 x2 x3, l = [x0, x1, x2, x3] := by
    match l, hs' with
    | [x0, x1, x2, x3], _ => exact ⟨_, _, _, _, rfl⟩
  obtain ⟨fuel, hf⟩ := hd
  have hf' : DataW.trod enc Tryz.prog W base sp held fuel 24 [x0, x1, x2, x3] = some (d, ps) := hf
  obtain ⟨xs, n, _, hx, hl, hlen, hat⟩ := DataW.trod_struct hu hf'
  obtain ⟨y0, y1, y2, y3, rfl⟩ : ∃ y0 y1 y2 y3, xs = [y0, y1, y2, y3] := by
    match xs, hlen with
    | [y0, y1, y2, y3], _ => exact ⟨_, _, _, _, rfl⟩
  have h0 := hat 0 f0 rfl
  have h1 := hat 1 f1 rfl
  have h2 := hat 2 f2 rfl
  have h3 := hat 3 f3 rfl
  rw [t0, o0, c3] at h0
  rw [t1, o1, c22] at h1
  rw [t2, o2, c22] at h2
  rw [t3, o3, c4] at h3
  obtain ⟨z0, e0, g0, w0⟩ := DataW.trod_int Tryz.underlying3 h0
  obtain ⟨z1, e1, g1, w1⟩ := DataW.trod_int Tryz.underlying22 h1
  obtain ⟨z2, e2, g2, w2⟩ := DataW.trod_int Tryz.underlying22 h2
  obtain ⟨z3, e3, g3⟩ := DataW.trod_bool Tryz.underlying4 h3
  obtain rfl : x0 = .int .i64 z0 := by simpa using e0
  obtain rfl : x1 = .int .u64 z1 := by simpa using e1
  obtain rfl : x2 = .int .u64 z2 := by simpa using e2
  obtain rfl : x3 = .bool z3 := by simpa using e3
  obtain ⟨b1, b2⟩ := bounds_u64 w1
  obtain ⟨b3, b4⟩ := bounds_u64 w2
  obtain ⟨alo, rfl⟩ := Int.eq_ofNat_of_zero_le b1
  obtain ⟨ahi, rfl⟩ := Int.eq_ofNat_of_zero_le b3
  subst g0 g1 g2 g3
  obtain ⟨rfl, rfl⟩ := Prod.mk.inj hx
  refine ⟨z0, alo, ahi, z3, rfl, by omega, by omega, rfl, fun W' sp' => ⟨2, ?_⟩⟩
  show DataW.trod enc Tryz.prog W' base sp' held 2 24 [.int .i64 z0, .int .u64 alo, .int .u64 ahi, .bool z3] = _
  refine trod_struct_mk (n := 1) (xs := [(.lit (.int .i64 z0), []), (.lit (.int .u64 alo), []), (.lit (.int .u64 ahi), []), (.lit (.bool z3), [])]) hu (by rw [c24]; rfl) ?_
  have k0 : DataW.trod enc Tryz.prog W' base sp' held 1 f0.type (([.int .i64 z0, .int .u64 alo, .int .u64 ahi, .bool z3].drop f0.offset).take (Tryz.prog.cellsOf f0.type)) = some (.lit (.int .i64 z0), []) := by
    rw [t0, o0, c3]; exact trod_int_mk 0 Tryz.underlying3 w0
  have k1 : DataW.trod enc Tryz.prog W' base sp' held 1 f1.type (([.int .i64 z0, .int .u64 alo, .int .u64 ahi, .bool z3].drop f1.offset).take (Tryz.prog.cellsOf f1.type)) = some (.lit (.int .u64 alo), []) := by
    rw [t1, o1, c22]; exact trod_int_mk 0 Tryz.underlying22 w1
  have k2 : DataW.trod enc Tryz.prog W' base sp' held 1 f2.type (([.int .i64 z0, .int .u64 alo, .int .u64 ahi, .bool z3].drop f2.offset).take (Tryz.prog.cellsOf f2.type)) = some (.lit (.int .u64 ahi), []) := by
    rw [t2, o2, c22]; exact trod_int_mk 0 Tryz.underlying22 w2
  have k3 : DataW.trod enc Tryz.prog W' base sp' held 1 f3.type (([.int .i64 z0, .int .u64 alo, .int .u64 ahi, .bool z3].drop f3.offset).take (Tryz.prog.cellsOf f3.type)) = some (.lit (.bool z3), []) := by
    rw [t3, o3, c4]; simp [DataW.trod, Tryz.underlying4]
  simp [k0, k1, k2, k3]
end Go.Proofs.YtlhakbkdlgejpaaGreatDoor
