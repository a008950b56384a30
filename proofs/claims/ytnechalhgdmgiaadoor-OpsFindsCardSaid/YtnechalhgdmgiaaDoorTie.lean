/-
  DERIVED. GIVEN WITH THE SEED: THE PROGRAM's TIES (one call each: nine closed facts by the kernel) AND EACH ROW's TIE, after the 31st guide's Derived/Test/Toyas{Tie, Card}.lean. No idea stands in it: it is a product of the set-up. Laid BY PROGRAM, IN A SANDBOX (cutbox-door.mjs). By AI agents, Wed Nov 11 2026. No macro, syntax, notation, axiom, sorry.
-/
import Derived.Test.YtnechalhgdmgiaaDoorRows
import Derived.LaidByTextLater
import Derived.SevenTiedAt
import Derived.LaidSub
import Derived.LaidOnce
namespace Go.Proofs.YtnechalhgdmgiaaDoor
open Go
set_option maxRecDepth 100000
theorem seatTie1 : Tryd.prog.laidByTextLater [("bodkin/ops.spans", Rows.laid_bodkin_ops_spans), ("bodkin/ops.plainAligns", Rows.laid_bodkin_ops_plainAligns), ("bodkin/ops.vectorAligns", Rows.laid_bodkin_ops_vectorAligns), ("bodkin/ops.laneAligns", Rows.laid_bodkin_ops_laneAligns), ("bodkin/ops.laneCounts", Rows.laid_bodkin_ops_laneCounts), ("bodkin/ops.lists", Rows.laid_bodkin_ops_lists)] [.data, .data, .data, .data, .data, .data] true :=
  Program.laidByTextLater_by_one 63 8 70 (by kernel_rfl) (by kernel_rfl) (by kernel_rfl) (by kernel_rfl) (by kernel_rfl) (by kernel_rfl) (fun _ _ => by kernel_rfl)
theorem noOwnUnsafe : Tryd.pinned.checked.prog.headLifts.contains "ownunsafe" = false := by kernel_rfl
theorem tie : Tryd.prog.laidByTextLater [("bodkin/ops.spans", Rows.laid_bodkin_ops_spans), ("bodkin/ops.plainAligns", Rows.laid_bodkin_ops_plainAligns), ("bodkin/ops.vectorAligns", Rows.laid_bodkin_ops_vectorAligns), ("bodkin/ops.laneAligns", Rows.laid_bodkin_ops_laneAligns), ("bodkin/ops.laneCounts", Rows.laid_bodkin_ops_laneCounts), ("bodkin/ops.lists", Rows.laid_bodkin_ops_lists)] [.data, .data, .data, .data, .data, .data] true :=
  Program.laidByTextLater.sub seatTie1 ["bodkin/ops.spans", "bodkin/ops.plainAligns", "bodkin/ops.vectorAligns", "bodkin/ops.laneAligns", "bodkin/ops.laneCounts", "bodkin/ops.lists"] (by kernel_rfl) (by kernel_rfl)
theorem opsSays_row_tie : Rows.opsSaysRow.laidByTextAt .later Tryd.pinned [.data, .data, .data, .data, .data, .data] true :=
  OpenClaim.laidByTextAt_later rfl rfl tie noOwnUnsafe
theorem opsFinds_row_tie : Rows.opsFindsRow.laidByTextAt .later Tryd.pinned [.data, .data, .data, .data, .data, .data] true :=
  OpenClaim.laidByTextAt_later rfl rfl tie noOwnUnsafe
theorem opsAll_row_tie : Rows.opsAllRow.laidByTextAt .later Tryd.pinned [.data, .data, .data, .data, .data, .data] true :=
  OpenClaim.laidByTextAt_later rfl rfl tie noOwnUnsafe
theorem opsPlaces_row_tie : Rows.opsPlacesRow.laidByTextAt .later Tryd.pinned [.data, .data, .data, .data, .data, .data] true :=
  OpenClaim.laidByTextAt_later rfl rfl tie noOwnUnsafe
theorem opsSigns_row_tie : Rows.opsSignsRow.laidByTextAt .later Tryd.pinned [.data, .data, .data, .data, .data, .data] true :=
  OpenClaim.laidByTextAt_later rfl rfl tie noOwnUnsafe
theorem opsSaysUpto_row_tie : Rows.opsSaysUptoRow.laidByTextAt .later Tryd.pinned [.data, .data, .data, .data, .data, .data] true :=
  OpenClaim.laidByTextAt_later rfl rfl tie noOwnUnsafe
theorem opsFindsUpto_row_tie : Rows.opsFindsUptoRow.laidByTextAt .later Tryd.pinned [.data, .data, .data, .data, .data, .data] true :=
  OpenClaim.laidByTextAt_later rfl rfl tie noOwnUnsafe
theorem opsAllUpto_row_tie : Rows.opsAllUptoRow.laidByTextAt .later Tryd.pinned [.data, .data, .data, .data, .data, .data] true :=
  OpenClaim.laidByTextAt_later rfl rfl tie noOwnUnsafe
theorem opsPlacesUpto_row_tie : Rows.opsPlacesUptoRow.laidByTextAt .later Tryd.pinned [.data, .data, .data, .data, .data, .data] true :=
  OpenClaim.laidByTextAt_later rfl rfl tie noOwnUnsafe
theorem opsSignsUpto_row_tie : Rows.opsSignsUptoRow.laidByTextAt .later Tryd.pinned [.data, .data, .data, .data, .data, .data] true :=
  OpenClaim.laidByTextAt_later rfl rfl tie noOwnUnsafe
end Go.Proofs.YtnechalhgdmgiaaDoor
