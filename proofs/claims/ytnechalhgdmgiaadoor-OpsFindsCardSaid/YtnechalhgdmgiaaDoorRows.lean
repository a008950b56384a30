/-
  NARROWER THAN 'FOR EVERY INPUT', by the rows' own cells (each row's printed sentence says how): OpsSays: laid · OpsFinds: laid · OpsAll: laid · OpsPlaces: laid · OpsSigns: laid.
  DERIVED. THE GIVEN ROWS OF THIS SEAT. 5 by the template 'for every input the law returns true; each argument reads behind the call as it read before'; 0 by the template 'total and deterministic' (their statements: YtnechalhgdmgiaaDoorTotals.lean).
  GIVEN WITH THE SEED: the statements are not yours to turn. If you find one false, say at which input.
  Laid BY PROGRAM, IN A SANDBOX (cutbox-rows.mjs): the forced cells as the released guide's own fill.sh prints them over the translation 5642772cc8cd26e8… (all of the seat's roots in one cut). By AI agents, Wed Nov 11 2026. No macro, syntax, notation, axiom, sorry.
-/
import Derived.Test.YtnechalhgdmgiaaDoorChecked
import GoSem.Claim
import GoSem.ClaimJoined
import GoSem.ClaimMapViews
import Derived.JoinedTies
import Derived.KernelRfl
namespace Go.Proofs.YtnechalhgdmgiaaDoor
/- THE CELL 'sum', in the pinned program and in every row, IS THE sha256 OF THE DUMP (.gsa) THAT YtnechalhgdmgiaaDoorProg.lean LOADS. Nothing in Lean hashes anything: it is a label: what it is worth is what the hold of that sum in a sandbox is worth. -/
noncomputable def Tryd.pinned : Pinned := { name := "ytnechalhgdmgiaadoor", sum := "5642772cc8cd26e82ddafa0e3b7da3bbf8b9a7df7a8b1418a93533143dcc6a83", checked := Tryd.checked }
namespace Rows
def none {H : Type} : Left H := { results := [], args := [] }

/- WHAT THE LISTED PACKAGE-LEVEL VARIABLES READ AS WHEN THE CALL BEGINS. Each datum BY PROGRAM (the guide's laid-datum.mjs) off the statement by which the dump's own 'gosem.cut.vars' lays the variable. In a bare row this is a premise. The card (YtnechalhgdmgiaaDoorCards.lean) ties it to the program's text. -/
def laid_bodkin_ops_spans {H : Type} : DataW H := .agg [.agg [.lit (.int .i64 0), .lit (.int .i64 211)], .agg [.lit (.int .i64 64512), .lit (.int .i64 64530)], .agg [.lit (.int .i64 64768), .lit (.int .i64 65024)]]
def laid_bodkin_ops_plainAligns {H : Type} : DataW H := .agg [.lit (.int .i64 2), .lit (.int .i64 3), .lit (.int .i64 2), .lit (.int .i64 3), .lit (.int .i64 0), .lit (.int .i64 0), .lit (.int .i64 1), .lit (.int .i64 1), .lit (.int .i64 0), .lit (.int .i64 0), .lit (.int .i64 1), .lit (.int .i64 1), .lit (.int .i64 2), .lit (.int .i64 2), .lit (.int .i64 2), .lit (.int .i64 3), .lit (.int .i64 2), .lit (.int .i64 3), .lit (.int .i64 0), .lit (.int .i64 1), .lit (.int .i64 0), .lit (.int .i64 1), .lit (.int .i64 2)]
def laid_bodkin_ops_vectorAligns {H : Type} : DataW H := .agg [.lit (.int .i64 4), .lit (.int .i64 3), .lit (.int .i64 3), .lit (.int .i64 3), .lit (.int .i64 3), .lit (.int .i64 3), .lit (.int .i64 3), .lit (.int .i64 0), .lit (.int .i64 1), .lit (.int .i64 2), .lit (.int .i64 3), .lit (.int .i64 4)]
def laid_bodkin_ops_laneAligns {H : Type} : DataW H := .agg [.lit (.int .i64 0), .lit (.int .i64 1), .lit (.int .i64 2), .lit (.int .i64 3), .lit (.int .i64 0), .lit (.int .i64 1), .lit (.int .i64 2), .lit (.int .i64 3), .lit (.int .i64 2), .lit (.int .i64 3)]
def laid_bodkin_ops_laneCounts {H : Type} : DataW H := .agg [.lit (.int .i64 16), .lit (.int .i64 16), .lit (.int .i64 16), .lit (.int .i64 8), .lit (.int .i64 8), .lit (.int .i64 8), .lit (.int .i64 4), .lit (.int .i64 4), .lit (.int .i64 2), .lit (.int .i64 2), .lit (.int .i64 4), .lit (.int .i64 4), .lit (.int .i64 2), .lit (.int .i64 2)]
def laid_bodkin_ops_lists {H : Type} : DataW H := .agg [.agg [.lit (.int .i64 0), .lit (.int .i64 0), .lit (.int .i64 0)], .agg [.lit (.int .i64 0), .lit (.int .i64 0), .lit (.int .i64 0)], .agg [.lit (.int .i64 127), .lit (.int .i64 0), .lit (.int .i64 0)], .agg [.lit (.int .i64 126), .lit (.int .i64 0), .lit (.int .i64 0)], .agg [.lit (.int .i64 125), .lit (.int .i64 0), .lit (.int .i64 0)], .agg [.lit (.int .i64 124), .lit (.int .i64 0), .lit (.int .i64 0)], .agg [.lit (.int .i64 123), .lit (.int .i64 0), .lit (.int .i64 0)], .agg [.lit (.int .i64 112), .lit (.int .i64 0), .lit (.int .i64 0)], .agg [.lit (.int .i64 127), .lit (.int .i64 127), .lit (.int .i64 0)], .agg [.lit (.int .i64 127), .lit (.int .i64 126), .lit (.int .i64 0)], .agg [.lit (.int .i64 127), .lit (.int .i64 125), .lit (.int .i64 0)], .agg [.lit (.int .i64 127), .lit (.int .i64 124), .lit (.int .i64 0)], .agg [.lit (.int .i64 127), .lit (.int .i64 123), .lit (.int .i64 0)], .agg [.lit (.int .i64 126), .lit (.int .i64 126), .lit (.int .i64 0)], .agg [.lit (.int .i64 125), .lit (.int .i64 125), .lit (.int .i64 0)], .agg [.lit (.int .i64 124), .lit (.int .i64 124), .lit (.int .i64 0)], .agg [.lit (.int .i64 123), .lit (.int .i64 127), .lit (.int .i64 0)], .agg [.lit (.int .i64 123), .lit (.int .i64 126), .lit (.int .i64 0)], .agg [.lit (.int .i64 123), .lit (.int .i64 125), .lit (.int .i64 0)], .agg [.lit (.int .i64 123), .lit (.int .i64 124), .lit (.int .i64 0)], .agg [.lit (.int .i64 123), .lit (.int .i64 123), .lit (.int .i64 0)], .agg [.lit (.int .i64 127), .lit (.int .i64 127), .lit (.int .i64 127)], .agg [.lit (.int .i64 123), .lit (.int .i64 123), .lit (.int .i64 123)]]

/-- 'bodkinlaw05.OpsSays': WHATEVER THE INPUT: true; the input reads as it did. -/
def opsSaysSpec : ChangeSpec := { name := "opsSays", fn := fun _ => fun
  | [d] => { results := [.lit (.bool true)], args := [d] }
  | _ => none }
def opsSaysRow : OpenClaim := { program := "ytnechalhgdmgiaadoor", sum := "5642772cc8cd26e82ddafa0e3b7da3bbf8b9a7df7a8b1418a93533143dcc6a83", func := "bodkin/bodkinlaw05.OpsSays", spec := "opsSays", named := ["bodkin/ops.spans", "bodkin/ops.lists", "bodkin/ops.plainAligns", "bodkin/ops.vectorAligns", "bodkin/ops.laneAligns", "bodkin/ops.laneCounts"], apart := false, laid := [("bodkin/ops.spans", laid_bodkin_ops_spans), ("bodkin/ops.plainAligns", laid_bodkin_ops_plainAligns), ("bodkin/ops.vectorAligns", laid_bodkin_ops_vectorAligns), ("bodkin/ops.laneAligns", laid_bodkin_ops_laneAligns), ("bodkin/ops.laneCounts", laid_bodkin_ops_laneCounts), ("bodkin/ops.lists", laid_bodkin_ops_lists)] }
def OpsSaysSaid : Prop := opsSaysRow.holds Tryd.pinned (OpenSpec.ofChange opsSaysSpec)

/-- ITS FALSE NEIGHBOUR: 'it returns false'. Refute it at one input. -/
def opsSaysWrong : ChangeSpec := { name := "opsSays", fn := fun _ => fun
  | [d] => { results := [.lit (.bool false)], args := [d] }
  | _ => none }
def OpsSaysWrongFalsely : Prop := opsSaysRow.holds Tryd.pinned (OpenSpec.ofChange opsSaysWrong)

/-- 'bodkinlaw05.OpsFinds': WHATEVER THE INPUT: true; the input reads as it did. -/
def opsFindsSpec : ChangeSpec := { name := "opsFinds", fn := fun _ => fun
  | [d1, d2] => { results := [.lit (.bool true)], args := [d1, d2] }
  | _ => none }
def opsFindsRow : OpenClaim := { program := "ytnechalhgdmgiaadoor", sum := "5642772cc8cd26e82ddafa0e3b7da3bbf8b9a7df7a8b1418a93533143dcc6a83", func := "bodkin/bodkinlaw05.OpsFinds", spec := "opsFinds", named := ["bodkin/ops.spans", "bodkin/ops.lists", "bodkin/ops.plainAligns", "bodkin/ops.vectorAligns", "bodkin/ops.laneAligns", "bodkin/ops.laneCounts"], apart := false, laid := [("bodkin/ops.spans", laid_bodkin_ops_spans), ("bodkin/ops.plainAligns", laid_bodkin_ops_plainAligns), ("bodkin/ops.vectorAligns", laid_bodkin_ops_vectorAligns), ("bodkin/ops.laneAligns", laid_bodkin_ops_laneAligns), ("bodkin/ops.laneCounts", laid_bodkin_ops_laneCounts), ("bodkin/ops.lists", laid_bodkin_ops_lists)] }
def OpsFindsSaid : Prop := opsFindsRow.holds Tryd.pinned (OpenSpec.ofChange opsFindsSpec)

/-- ITS FALSE NEIGHBOUR: 'it returns false'. Refute it at one input. -/
def opsFindsWrong : ChangeSpec := { name := "opsFinds", fn := fun _ => fun
  | [d1, d2] => { results := [.lit (.bool false)], args := [d1, d2] }
  | _ => none }
def OpsFindsWrongFalsely : Prop := opsFindsRow.holds Tryd.pinned (OpenSpec.ofChange opsFindsWrong)

/-- 'bodkinlaw05.OpsAll': WHATEVER THE INPUT: true; the input reads as it did. -/
def opsAllSpec : ChangeSpec := { name := "opsAll", fn := fun _ => fun
  | [d] => { results := [.lit (.bool true)], args := [d] }
  | _ => none }
def opsAllRow : OpenClaim := { program := "ytnechalhgdmgiaadoor", sum := "5642772cc8cd26e82ddafa0e3b7da3bbf8b9a7df7a8b1418a93533143dcc6a83", func := "bodkin/bodkinlaw05.OpsAll", spec := "opsAll", named := ["bodkin/ops.spans", "bodkin/ops.lists", "bodkin/ops.plainAligns", "bodkin/ops.vectorAligns", "bodkin/ops.laneAligns", "bodkin/ops.laneCounts"], apart := false, laid := [("bodkin/ops.spans", laid_bodkin_ops_spans), ("bodkin/ops.plainAligns", laid_bodkin_ops_plainAligns), ("bodkin/ops.vectorAligns", laid_bodkin_ops_vectorAligns), ("bodkin/ops.laneAligns", laid_bodkin_ops_laneAligns), ("bodkin/ops.laneCounts", laid_bodkin_ops_laneCounts), ("bodkin/ops.lists", laid_bodkin_ops_lists)] }
def OpsAllSaid : Prop := opsAllRow.holds Tryd.pinned (OpenSpec.ofChange opsAllSpec)

/-- ITS FALSE NEIGHBOUR: 'it returns false'. Refute it at one input. -/
def opsAllWrong : ChangeSpec := { name := "opsAll", fn := fun _ => fun
  | [d] => { results := [.lit (.bool false)], args := [d] }
  | _ => none }
def OpsAllWrongFalsely : Prop := opsAllRow.holds Tryd.pinned (OpenSpec.ofChange opsAllWrong)

/-- 'bodkinlaw05.OpsPlaces': WHATEVER THE INPUT: true; the input reads as it did. -/
def opsPlacesSpec : ChangeSpec := { name := "opsPlaces", fn := fun _ => fun
  | [d] => { results := [.lit (.bool true)], args := [d] }
  | _ => none }
def opsPlacesRow : OpenClaim := { program := "ytnechalhgdmgiaadoor", sum := "5642772cc8cd26e82ddafa0e3b7da3bbf8b9a7df7a8b1418a93533143dcc6a83", func := "bodkin/bodkinlaw05.OpsPlaces", spec := "opsPlaces", named := ["bodkin/ops.spans", "bodkin/ops.lists", "bodkin/ops.plainAligns", "bodkin/ops.vectorAligns", "bodkin/ops.laneAligns", "bodkin/ops.laneCounts"], apart := false, laid := [("bodkin/ops.spans", laid_bodkin_ops_spans), ("bodkin/ops.plainAligns", laid_bodkin_ops_plainAligns), ("bodkin/ops.vectorAligns", laid_bodkin_ops_vectorAligns), ("bodkin/ops.laneAligns", laid_bodkin_ops_laneAligns), ("bodkin/ops.laneCounts", laid_bodkin_ops_laneCounts), ("bodkin/ops.lists", laid_bodkin_ops_lists)] }
def OpsPlacesSaid : Prop := opsPlacesRow.holds Tryd.pinned (OpenSpec.ofChange opsPlacesSpec)

/-- ITS FALSE NEIGHBOUR: 'it returns false'. Refute it at one input. -/
def opsPlacesWrong : ChangeSpec := { name := "opsPlaces", fn := fun _ => fun
  | [d] => { results := [.lit (.bool false)], args := [d] }
  | _ => none }
def OpsPlacesWrongFalsely : Prop := opsPlacesRow.holds Tryd.pinned (OpenSpec.ofChange opsPlacesWrong)

/-- 'bodkinlaw05.OpsSigns': WHATEVER THE INPUT: true; the input reads as it did. -/
def opsSignsSpec : ChangeSpec := { name := "opsSigns", fn := fun _ => fun
  | [d] => { results := [.lit (.bool true)], args := [d] }
  | _ => none }
def opsSignsRow : OpenClaim := { program := "ytnechalhgdmgiaadoor", sum := "5642772cc8cd26e82ddafa0e3b7da3bbf8b9a7df7a8b1418a93533143dcc6a83", func := "bodkin/bodkinlaw05.OpsSigns", spec := "opsSigns", named := ["bodkin/ops.spans", "bodkin/ops.lists", "bodkin/ops.plainAligns", "bodkin/ops.vectorAligns", "bodkin/ops.laneAligns", "bodkin/ops.laneCounts"], apart := false, laid := [("bodkin/ops.spans", laid_bodkin_ops_spans), ("bodkin/ops.plainAligns", laid_bodkin_ops_plainAligns), ("bodkin/ops.vectorAligns", laid_bodkin_ops_vectorAligns), ("bodkin/ops.laneAligns", laid_bodkin_ops_laneAligns), ("bodkin/ops.laneCounts", laid_bodkin_ops_laneCounts), ("bodkin/ops.lists", laid_bodkin_ops_lists)] }
def OpsSignsSaid : Prop := opsSignsRow.holds Tryd.pinned (OpenSpec.ofChange opsSignsSpec)

/-- ITS FALSE NEIGHBOUR: 'it returns false'. Refute it at one input. -/
def opsSignsWrong : ChangeSpec := { name := "opsSigns", fn := fun _ => fun
  | [d] => { results := [.lit (.bool false)], args := [d] }
  | _ => none }
def OpsSignsWrongFalsely : Prop := opsSignsRow.holds Tryd.pinned (OpenSpec.ofChange opsSignsWrong)

/- THE SECOND FORM. 'bulk': how many values and letters a reading holds, each counted each time it is reached (what is shared counts as often as it is met; a slice's spare places count too). A statement '..UptoSaid' is the law's where the arguments, and the package variables that the reading takes, are together of bulk at most 1048576: NARROWER than '..Said'. Prove '..Said' where nothing that the law and all that it calls make is longer than what came in: it says more and counts as full. Else prove '..UptoSaid'. A law counts once. -/
mutual
def uptoBulk {H : Type} : DataW H → Nat
  | .lit (.string bytes) => bytes.length + 1
  | .lit _ => 1
  | .nil => 1
  | .ptr d => uptoBulk d + 1
  | .slice elems spare => uptoBulkAll elems + uptoBulkAll spare + 1
  | .agg parts => uptoBulkAll parts + 1
  | .iface _ d => uptoBulk d + 1
  | .map entries => uptoBulkEntries entries + 1
  | .held _ => 1
def uptoBulkAll {H : Type} : List (DataW H) → Nat
  | [] => 0
  | d :: r => uptoBulk d + uptoBulkAll r
def uptoBulkEntries {H : Type} : List (Lit × DataW H) → Nat
  | [] => 0
  | x :: r => uptoBulkEntry x + uptoBulkEntries r
def uptoBulkEntry {H : Type} : Lit × DataW H → Nat
  | (.string bytes, d) => bytes.length + uptoBulk d + 1
  | (_, d) => uptoBulk d + 1
 end
def uptoSmall : (H : Type) → List (DataW H) → Bool := fun _ ds => decide (uptoBulkAll ds ≤ 1048576)
def OpenSpec.upto (s : _root_.Go.ChangeSpec) : _root_.Go.OpenSpec := { _root_.Go.OpenSpec.ofChange s with cond := some uptoSmall }

/-- 'bodkinlaw05.OpsSays', WHERE WHAT IT READS IS OF BULK AT MOST 1048576: true; the input reads as it did. -/
def opsSaysUptoRow : OpenClaim := { program := "ytnechalhgdmgiaadoor", sum := "5642772cc8cd26e82ddafa0e3b7da3bbf8b9a7df7a8b1418a93533143dcc6a83", func := "bodkin/bodkinlaw05.OpsSays", spec := "opsSays", named := ["bodkin/ops.spans", "bodkin/ops.lists", "bodkin/ops.plainAligns", "bodkin/ops.vectorAligns", "bodkin/ops.laneAligns", "bodkin/ops.laneCounts"], apart := false, laid := [("bodkin/ops.spans", laid_bodkin_ops_spans), ("bodkin/ops.plainAligns", laid_bodkin_ops_plainAligns), ("bodkin/ops.vectorAligns", laid_bodkin_ops_vectorAligns), ("bodkin/ops.laneAligns", laid_bodkin_ops_laneAligns), ("bodkin/ops.laneCounts", laid_bodkin_ops_laneCounts), ("bodkin/ops.lists", laid_bodkin_ops_lists)], narrowed := true }
def OpsSaysUptoSaid : Prop := opsSaysUptoRow.holds Tryd.pinned (OpenSpec.upto opsSaysSpec)

/-- 'bodkinlaw05.OpsFinds', WHERE WHAT IT READS IS OF BULK AT MOST 1048576: true; the input reads as it did. -/
def opsFindsUptoRow : OpenClaim := { program := "ytnechalhgdmgiaadoor", sum := "5642772cc8cd26e82ddafa0e3b7da3bbf8b9a7df7a8b1418a93533143dcc6a83", func := "bodkin/bodkinlaw05.OpsFinds", spec := "opsFinds", named := ["bodkin/ops.spans", "bodkin/ops.lists", "bodkin/ops.plainAligns", "bodkin/ops.vectorAligns", "bodkin/ops.laneAligns", "bodkin/ops.laneCounts"], apart := false, laid := [("bodkin/ops.spans", laid_bodkin_ops_spans), ("bodkin/ops.plainAligns", laid_bodkin_ops_plainAligns), ("bodkin/ops.vectorAligns", laid_bodkin_ops_vectorAligns), ("bodkin/ops.laneAligns", laid_bodkin_ops_laneAligns), ("bodkin/ops.laneCounts", laid_bodkin_ops_laneCounts), ("bodkin/ops.lists", laid_bodkin_ops_lists)], narrowed := true }
def OpsFindsUptoSaid : Prop := opsFindsUptoRow.holds Tryd.pinned (OpenSpec.upto opsFindsSpec)

/-- 'bodkinlaw05.OpsAll', WHERE WHAT IT READS IS OF BULK AT MOST 1048576: true; the input reads as it did. -/
def opsAllUptoRow : OpenClaim := { program := "ytnechalhgdmgiaadoor", sum := "5642772cc8cd26e82ddafa0e3b7da3bbf8b9a7df7a8b1418a93533143dcc6a83", func := "bodkin/bodkinlaw05.OpsAll", spec := "opsAll", named := ["bodkin/ops.spans", "bodkin/ops.lists", "bodkin/ops.plainAligns", "bodkin/ops.vectorAligns", "bodkin/ops.laneAligns", "bodkin/ops.laneCounts"], apart := false, laid := [("bodkin/ops.spans", laid_bodkin_ops_spans), ("bodkin/ops.plainAligns", laid_bodkin_ops_plainAligns), ("bodkin/ops.vectorAligns", laid_bodkin_ops_vectorAligns), ("bodkin/ops.laneAligns", laid_bodkin_ops_laneAligns), ("bodkin/ops.laneCounts", laid_bodkin_ops_laneCounts), ("bodkin/ops.lists", laid_bodkin_ops_lists)], narrowed := true }
def OpsAllUptoSaid : Prop := opsAllUptoRow.holds Tryd.pinned (OpenSpec.upto opsAllSpec)

/-- 'bodkinlaw05.OpsPlaces', WHERE WHAT IT READS IS OF BULK AT MOST 1048576: true; the input reads as it did. -/
def opsPlacesUptoRow : OpenClaim := { program := "ytnechalhgdmgiaadoor", sum := "5642772cc8cd26e82ddafa0e3b7da3bbf8b9a7df7a8b1418a93533143dcc6a83", func := "bodkin/bodkinlaw05.OpsPlaces", spec := "opsPlaces", named := ["bodkin/ops.spans", "bodkin/ops.lists", "bodkin/ops.plainAligns", "bodkin/ops.vectorAligns", "bodkin/ops.laneAligns", "bodkin/ops.laneCounts"], apart := false, laid := [("bodkin/ops.spans", laid_bodkin_ops_spans), ("bodkin/ops.plainAligns", laid_bodkin_ops_plainAligns), ("bodkin/ops.vectorAligns", laid_bodkin_ops_vectorAligns), ("bodkin/ops.laneAligns", laid_bodkin_ops_laneAligns), ("bodkin/ops.laneCounts", laid_bodkin_ops_laneCounts), ("bodkin/ops.lists", laid_bodkin_ops_lists)], narrowed := true }
def OpsPlacesUptoSaid : Prop := opsPlacesUptoRow.holds Tryd.pinned (OpenSpec.upto opsPlacesSpec)

/-- 'bodkinlaw05.OpsSigns', WHERE WHAT IT READS IS OF BULK AT MOST 1048576: true; the input reads as it did. -/
def opsSignsUptoRow : OpenClaim := { program := "ytnechalhgdmgiaadoor", sum := "5642772cc8cd26e82ddafa0e3b7da3bbf8b9a7df7a8b1418a93533143dcc6a83", func := "bodkin/bodkinlaw05.OpsSigns", spec := "opsSigns", named := ["bodkin/ops.spans", "bodkin/ops.lists", "bodkin/ops.plainAligns", "bodkin/ops.vectorAligns", "bodkin/ops.laneAligns", "bodkin/ops.laneCounts"], apart := false, laid := [("bodkin/ops.spans", laid_bodkin_ops_spans), ("bodkin/ops.plainAligns", laid_bodkin_ops_plainAligns), ("bodkin/ops.vectorAligns", laid_bodkin_ops_vectorAligns), ("bodkin/ops.laneAligns", laid_bodkin_ops_laneAligns), ("bodkin/ops.laneCounts", laid_bodkin_ops_laneCounts), ("bodkin/ops.lists", laid_bodkin_ops_lists)], narrowed := true }
def OpsSignsUptoSaid : Prop := opsSignsUptoRow.holds Tryd.pinned (OpenSpec.upto opsSignsSpec)

end Rows
end Go.Proofs.YtnechalhgdmgiaaDoor
