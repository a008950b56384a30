/-
  NARROWER THAN 'FOR EVERY INPUT', by the rows' own cells (each row's printed sentence says how): LanesReplaces: laid · LanesMoves: laid · LanesFloatsStand: laid · LanesFloats: laid · LanesFloatOnes: laid · LanesNarrows: laid · LanesWidens: laid · LanesProducts: laid · LanesChooses: laid · LanesBits: laid · ScalarTraps: laid · ScalarWords: laid · ScalarLongs: laid · ScalarStand: laid · ScalarFloats: laid · ScalarHeld: laid.
  DERIVED. THE GIVEN ROWS OF THIS SEAT. 16 by the template 'for every input the law returns true; each argument reads behind the call as it read before'; 0 by the template 'total and deterministic' (their statements: YtlhakbkdlgejpaaGreatDoorTotals.lean).
  GIVEN WITH THE SEED: the statements are not yours to turn. If you find one false, say at which input.
  Laid BY PROGRAM, IN A SANDBOX (cutbox-rows.mjs): the forced cells as the released guide's own fill.sh prints them over the translation aff338df2cdd20fc… (all of the seat's roots in one cut). By AI agents, Wed Nov 11 2026. No macro, syntax, notation, axiom, sorry.
-/
import Derived.Test.YtlhakbkdlgejpaaGreatDoorChecked
import GoSem.Claim
import GoSem.ClaimJoined
import GoSem.ClaimMapViews
import Derived.JoinedTies
import Derived.KernelRfl
namespace Go.Proofs.YtlhakbkdlgejpaaGreatDoor
/- THE CELL 'sum', in the pinned program and in every row, IS THE sha256 OF THE DUMP (.gsa) THAT YtlhakbkdlgejpaaGreatDoorProg.lean LOADS. Nothing in Lean hashes anything: it is a label: what it is worth is what the hold of that sum in a sandbox is worth. -/
noncomputable def Tryz.pinned : Pinned := { name := "ytlhakbkdlgejpaagreatdoor", sum := "aff338df2cdd20fcd1784d0ce7829784da80476d65ccae59504def00b5a30683", checked := Tryz.checked }
namespace Rows
def none {H : Type} : Left H := { results := [], args := [] }

/- WHAT THE LISTED PACKAGE-LEVEL VARIABLES READ AS WHEN THE CALL BEGINS. Each datum BY PROGRAM (the guide's laid-datum.mjs) off the statement by which the dump's own 'gosem.cut.vars' lays the variable. In a bare row this is a premise. The card (YtlhakbkdlgejpaaGreatDoorCards.lean) ties it to the program's text. -/
def laid_bodkin_ops_plainAligns {H : Type} : DataW H := .agg [.lit (.int .i64 2), .lit (.int .i64 3), .lit (.int .i64 2), .lit (.int .i64 3), .lit (.int .i64 0), .lit (.int .i64 0), .lit (.int .i64 1), .lit (.int .i64 1), .lit (.int .i64 0), .lit (.int .i64 0), .lit (.int .i64 1), .lit (.int .i64 1), .lit (.int .i64 2), .lit (.int .i64 2), .lit (.int .i64 2), .lit (.int .i64 3), .lit (.int .i64 2), .lit (.int .i64 3), .lit (.int .i64 0), .lit (.int .i64 1), .lit (.int .i64 0), .lit (.int .i64 1), .lit (.int .i64 2)]
def laid_bodkin_ops_vectorAligns {H : Type} : DataW H := .agg [.lit (.int .i64 4), .lit (.int .i64 3), .lit (.int .i64 3), .lit (.int .i64 3), .lit (.int .i64 3), .lit (.int .i64 3), .lit (.int .i64 3), .lit (.int .i64 0), .lit (.int .i64 1), .lit (.int .i64 2), .lit (.int .i64 3), .lit (.int .i64 4)]
def laid_bodkin_ops_laneAligns {H : Type} : DataW H := .agg [.lit (.int .i64 0), .lit (.int .i64 1), .lit (.int .i64 2), .lit (.int .i64 3), .lit (.int .i64 0), .lit (.int .i64 1), .lit (.int .i64 2), .lit (.int .i64 3), .lit (.int .i64 2), .lit (.int .i64 3)]
def laid_bodkin_ops_laneCounts {H : Type} : DataW H := .agg [.lit (.int .i64 16), .lit (.int .i64 16), .lit (.int .i64 16), .lit (.int .i64 8), .lit (.int .i64 8), .lit (.int .i64 8), .lit (.int .i64 4), .lit (.int .i64 4), .lit (.int .i64 2), .lit (.int .i64 2), .lit (.int .i64 4), .lit (.int .i64 4), .lit (.int .i64 2), .lit (.int .i64 2)]
def laid_bodkin_ops_lists {H : Type} : DataW H := .agg [.agg [.lit (.int .i64 0), .lit (.int .i64 0), .lit (.int .i64 0)], .agg [.lit (.int .i64 0), .lit (.int .i64 0), .lit (.int .i64 0)], .agg [.lit (.int .i64 127), .lit (.int .i64 0), .lit (.int .i64 0)], .agg [.lit (.int .i64 126), .lit (.int .i64 0), .lit (.int .i64 0)], .agg [.lit (.int .i64 125), .lit (.int .i64 0), .lit (.int .i64 0)], .agg [.lit (.int .i64 124), .lit (.int .i64 0), .lit (.int .i64 0)], .agg [.lit (.int .i64 123), .lit (.int .i64 0), .lit (.int .i64 0)], .agg [.lit (.int .i64 112), .lit (.int .i64 0), .lit (.int .i64 0)], .agg [.lit (.int .i64 127), .lit (.int .i64 127), .lit (.int .i64 0)], .agg [.lit (.int .i64 127), .lit (.int .i64 126), .lit (.int .i64 0)], .agg [.lit (.int .i64 127), .lit (.int .i64 125), .lit (.int .i64 0)], .agg [.lit (.int .i64 127), .lit (.int .i64 124), .lit (.int .i64 0)], .agg [.lit (.int .i64 127), .lit (.int .i64 123), .lit (.int .i64 0)], .agg [.lit (.int .i64 126), .lit (.int .i64 126), .lit (.int .i64 0)], .agg [.lit (.int .i64 125), .lit (.int .i64 125), .lit (.int .i64 0)], .agg [.lit (.int .i64 124), .lit (.int .i64 124), .lit (.int .i64 0)], .agg [.lit (.int .i64 123), .lit (.int .i64 127), .lit (.int .i64 0)], .agg [.lit (.int .i64 123), .lit (.int .i64 126), .lit (.int .i64 0)], .agg [.lit (.int .i64 123), .lit (.int .i64 125), .lit (.int .i64 0)], .agg [.lit (.int .i64 123), .lit (.int .i64 124), .lit (.int .i64 0)], .agg [.lit (.int .i64 123), .lit (.int .i64 123), .lit (.int .i64 0)], .agg [.lit (.int .i64 127), .lit (.int .i64 127), .lit (.int .i64 127)], .agg [.lit (.int .i64 123), .lit (.int .i64 123), .lit (.int .i64 123)]]
def laid_bodkin_scalar_floatUnaries {H : Type} : DataW H := .agg [.lit (.int .i64 1), .lit (.int .i64 2), .lit (.int .i64 4), .lit (.int .i64 5), .lit (.int .i64 6), .lit (.int .i64 7), .lit (.int .i64 3)]

/-- 'bodkinlaw06.LanesReplaces': WHATEVER THE INPUT: true; the input reads as it did. -/
def lanesReplacesSpec : ChangeSpec := { name := "lanesReplaces", fn := fun _ => fun
  | [d1, d2, d3, d4] => { results := [.lit (.bool true)], args := [d1, d2, d3, d4] }
  | _ => none }
def lanesReplacesRow : OpenClaim := { program := "ytlhakbkdlgejpaagreatdoor", sum := "aff338df2cdd20fcd1784d0ce7829784da80476d65ccae59504def00b5a30683", func := "bodkin/bodkinlaw06.LanesReplaces", spec := "lanesReplaces", inPlace := ["internal/bytealg.IndexByteString", "internal/bytealg.IndexString"], unfollowed := true, recurses := true, named := ["bodkin/ops.laneCounts", "bodkin/ops.plainAligns", "bodkin/ops.vectorAligns", "bodkin/ops.laneAligns", "bodkin/ops.lists", "internal/bytealg.MaxLen"], apart := false, laid := [("bodkin/ops.plainAligns", laid_bodkin_ops_plainAligns), ("bodkin/ops.vectorAligns", laid_bodkin_ops_vectorAligns), ("bodkin/ops.laneAligns", laid_bodkin_ops_laneAligns), ("bodkin/ops.laneCounts", laid_bodkin_ops_laneCounts), ("bodkin/ops.lists", laid_bodkin_ops_lists)] }
def LanesReplacesSaid : Prop := lanesReplacesRow.holds Tryz.pinned (OpenSpec.ofChange lanesReplacesSpec)

/-- ITS FALSE NEIGHBOUR: 'it returns false'. Refute it at one input. -/
def lanesReplacesWrong : ChangeSpec := { name := "lanesReplaces", fn := fun _ => fun
  | [d1, d2, d3, d4] => { results := [.lit (.bool false)], args := [d1, d2, d3, d4] }
  | _ => none }
def LanesReplacesWrongFalsely : Prop := lanesReplacesRow.holds Tryz.pinned (OpenSpec.ofChange lanesReplacesWrong)

/-- 'bodkinlaw06.LanesMoves': WHATEVER THE INPUT: true; the input reads as it did. -/
def lanesMovesSpec : ChangeSpec := { name := "lanesMoves", fn := fun _ => fun
  | [d1, d2, d3, d4, d5] => { results := [.lit (.bool true)], args := [d1, d2, d3, d4, d5] }
  | _ => none }
def lanesMovesRow : OpenClaim := { program := "ytlhakbkdlgejpaagreatdoor", sum := "aff338df2cdd20fcd1784d0ce7829784da80476d65ccae59504def00b5a30683", func := "bodkin/bodkinlaw06.LanesMoves", spec := "lanesMoves", inPlace := ["internal/bytealg.IndexByteString", "internal/bytealg.IndexString", "math.Float32frombits", "math.Float64frombits", "math.archTrunc", "math.Float64bits", "math.Float32bits", "math.sqrt", "math.archCeil", "math.archFloor", "math.RoundToEven"], unfollowed := true, recurses := true, named := ["bodkin/ops.laneCounts", "bodkin/ops.plainAligns", "bodkin/ops.vectorAligns", "bodkin/ops.laneAligns", "bodkin/ops.lists", "internal/bytealg.MaxLen"], apart := false, laid := [("bodkin/ops.plainAligns", laid_bodkin_ops_plainAligns), ("bodkin/ops.vectorAligns", laid_bodkin_ops_vectorAligns), ("bodkin/ops.laneAligns", laid_bodkin_ops_laneAligns), ("bodkin/ops.laneCounts", laid_bodkin_ops_laneCounts), ("bodkin/ops.lists", laid_bodkin_ops_lists)] }
def LanesMovesSaid : Prop := lanesMovesRow.holds Tryz.pinned (OpenSpec.ofChange lanesMovesSpec)

/-- ITS FALSE NEIGHBOUR: 'it returns false'. Refute it at one input. -/
def lanesMovesWrong : ChangeSpec := { name := "lanesMoves", fn := fun _ => fun
  | [d1, d2, d3, d4, d5] => { results := [.lit (.bool false)], args := [d1, d2, d3, d4, d5] }
  | _ => none }
def LanesMovesWrongFalsely : Prop := lanesMovesRow.holds Tryz.pinned (OpenSpec.ofChange lanesMovesWrong)

/-- 'bodkinlaw06.LanesFloatsStand': WHATEVER THE INPUT: true; the input reads as it did. -/
def lanesFloatsStandSpec : ChangeSpec := { name := "lanesFloatsStand", fn := fun _ => fun
  | [d1, d2, d3, d4, d5] => { results := [.lit (.bool true)], args := [d1, d2, d3, d4, d5] }
  | _ => none }
def lanesFloatsStandRow : OpenClaim := { program := "ytlhakbkdlgejpaagreatdoor", sum := "aff338df2cdd20fcd1784d0ce7829784da80476d65ccae59504def00b5a30683", func := "bodkin/bodkinlaw06.LanesFloatsStand", spec := "lanesFloatsStand", inPlace := ["internal/bytealg.IndexByteString", "internal/bytealg.IndexString", "math.Float32frombits", "math.Float64frombits", "math.archTrunc", "math.Float64bits", "math.Float32bits", "math.sqrt", "math.archCeil", "math.archFloor", "math.RoundToEven"], unfollowed := true, recurses := true, named := ["bodkin/ops.laneCounts", "bodkin/ops.plainAligns", "bodkin/ops.vectorAligns", "bodkin/ops.laneAligns", "bodkin/ops.lists", "internal/bytealg.MaxLen"], apart := false, laid := [("bodkin/ops.plainAligns", laid_bodkin_ops_plainAligns), ("bodkin/ops.vectorAligns", laid_bodkin_ops_vectorAligns), ("bodkin/ops.laneAligns", laid_bodkin_ops_laneAligns), ("bodkin/ops.laneCounts", laid_bodkin_ops_laneCounts), ("bodkin/ops.lists", laid_bodkin_ops_lists)] }
def LanesFloatsStandSaid : Prop := lanesFloatsStandRow.holds Tryz.pinned (OpenSpec.ofChange lanesFloatsStandSpec)

/-- ITS FALSE NEIGHBOUR: 'it returns false'. Refute it at one input. -/
def lanesFloatsStandWrong : ChangeSpec := { name := "lanesFloatsStand", fn := fun _ => fun
  | [d1, d2, d3, d4, d5] => { results := [.lit (.bool false)], args := [d1, d2, d3, d4, d5] }
  | _ => none }
def LanesFloatsStandWrongFalsely : Prop := lanesFloatsStandRow.holds Tryz.pinned (OpenSpec.ofChange lanesFloatsStandWrong)

/-- 'bodkinlaw06.LanesFloats': WHATEVER THE INPUT: true; the input reads as it did. -/
def lanesFloatsSpec : ChangeSpec := { name := "lanesFloats", fn := fun _ => fun
  | [d1, d2, d3, d4, d5] => { results := [.lit (.bool true)], args := [d1, d2, d3, d4, d5] }
  | _ => none }
def lanesFloatsRow : OpenClaim := { program := "ytlhakbkdlgejpaagreatdoor", sum := "aff338df2cdd20fcd1784d0ce7829784da80476d65ccae59504def00b5a30683", func := "bodkin/bodkinlaw06.LanesFloats", spec := "lanesFloats", inPlace := ["internal/bytealg.IndexByteString", "internal/bytealg.IndexString", "math.Float32frombits", "math.Float64frombits", "math.archTrunc", "math.Float64bits", "math.Float32bits", "math.sqrt", "math.archCeil", "math.archFloor", "math.RoundToEven"], unfollowed := true, recurses := true, named := ["bodkin/ops.laneCounts", "bodkin/ops.plainAligns", "bodkin/ops.vectorAligns", "bodkin/ops.laneAligns", "bodkin/ops.lists", "internal/bytealg.MaxLen"], apart := false, laid := [("bodkin/ops.plainAligns", laid_bodkin_ops_plainAligns), ("bodkin/ops.vectorAligns", laid_bodkin_ops_vectorAligns), ("bodkin/ops.laneAligns", laid_bodkin_ops_laneAligns), ("bodkin/ops.laneCounts", laid_bodkin_ops_laneCounts), ("bodkin/ops.lists", laid_bodkin_ops_lists)] }
def LanesFloatsSaid : Prop := lanesFloatsRow.holds Tryz.pinned (OpenSpec.ofChange lanesFloatsSpec)

/-- ITS FALSE NEIGHBOUR: 'it returns false'. Refute it at one input. -/
def lanesFloatsWrong : ChangeSpec := { name := "lanesFloats", fn := fun _ => fun
  | [d1, d2, d3, d4, d5] => { results := [.lit (.bool false)], args := [d1, d2, d3, d4, d5] }
  | _ => none }
def LanesFloatsWrongFalsely : Prop := lanesFloatsRow.holds Tryz.pinned (OpenSpec.ofChange lanesFloatsWrong)

/-- 'bodkinlaw06.LanesFloatOnes': WHATEVER THE INPUT: true; the input reads as it did. -/
def lanesFloatOnesSpec : ChangeSpec := { name := "lanesFloatOnes", fn := fun _ => fun
  | [d1, d2, d3, d4, d5] => { results := [.lit (.bool true)], args := [d1, d2, d3, d4, d5] }
  | _ => none }
def lanesFloatOnesRow : OpenClaim := { program := "ytlhakbkdlgejpaagreatdoor", sum := "aff338df2cdd20fcd1784d0ce7829784da80476d65ccae59504def00b5a30683", func := "bodkin/bodkinlaw06.LanesFloatOnes", spec := "lanesFloatOnes", inPlace := ["internal/bytealg.IndexByteString", "internal/bytealg.IndexString", "math.Float32frombits", "math.Float64frombits", "math.archTrunc", "math.Float64bits", "math.Float32bits", "math.sqrt", "math.archCeil", "math.archFloor", "math.RoundToEven"], unfollowed := true, recurses := true, named := ["bodkin/ops.laneCounts", "bodkin/ops.plainAligns", "bodkin/ops.vectorAligns", "bodkin/ops.laneAligns", "bodkin/ops.lists", "internal/bytealg.MaxLen"], apart := false, laid := [("bodkin/ops.plainAligns", laid_bodkin_ops_plainAligns), ("bodkin/ops.vectorAligns", laid_bodkin_ops_vectorAligns), ("bodkin/ops.laneAligns", laid_bodkin_ops_laneAligns), ("bodkin/ops.laneCounts", laid_bodkin_ops_laneCounts), ("bodkin/ops.lists", laid_bodkin_ops_lists)] }
def LanesFloatOnesSaid : Prop := lanesFloatOnesRow.holds Tryz.pinned (OpenSpec.ofChange lanesFloatOnesSpec)

/-- ITS FALSE NEIGHBOUR: 'it returns false'. Refute it at one input. -/
def lanesFloatOnesWrong : ChangeSpec := { name := "lanesFloatOnes", fn := fun _ => fun
  | [d1, d2, d3, d4, d5] => { results := [.lit (.bool false)], args := [d1, d2, d3, d4, d5] }
  | _ => none }
def LanesFloatOnesWrongFalsely : Prop := lanesFloatOnesRow.holds Tryz.pinned (OpenSpec.ofChange lanesFloatOnesWrong)

/-- 'bodkinlaw06.LanesNarrows': WHATEVER THE INPUT: true; the input reads as it did. -/
def lanesNarrowsSpec : ChangeSpec := { name := "lanesNarrows", fn := fun _ => fun
  | [d1, d2, d3, d4, d5] => { results := [.lit (.bool true)], args := [d1, d2, d3, d4, d5] }
  | _ => none }
def lanesNarrowsRow : OpenClaim := { program := "ytlhakbkdlgejpaagreatdoor", sum := "aff338df2cdd20fcd1784d0ce7829784da80476d65ccae59504def00b5a30683", func := "bodkin/bodkinlaw06.LanesNarrows", spec := "lanesNarrows", inPlace := ["internal/bytealg.IndexByteString", "internal/bytealg.IndexString", "math.Float32frombits", "math.Float64frombits", "math.archTrunc", "math.Float64bits", "math.Float32bits", "math.sqrt", "math.archCeil", "math.archFloor", "math.RoundToEven"], unfollowed := true, recurses := true, named := ["bodkin/ops.laneCounts", "bodkin/ops.plainAligns", "bodkin/ops.vectorAligns", "bodkin/ops.laneAligns", "bodkin/ops.lists", "internal/bytealg.MaxLen"], apart := false, laid := [("bodkin/ops.plainAligns", laid_bodkin_ops_plainAligns), ("bodkin/ops.vectorAligns", laid_bodkin_ops_vectorAligns), ("bodkin/ops.laneAligns", laid_bodkin_ops_laneAligns), ("bodkin/ops.laneCounts", laid_bodkin_ops_laneCounts), ("bodkin/ops.lists", laid_bodkin_ops_lists)] }
def LanesNarrowsSaid : Prop := lanesNarrowsRow.holds Tryz.pinned (OpenSpec.ofChange lanesNarrowsSpec)

/-- ITS FALSE NEIGHBOUR: 'it returns false'. Refute it at one input. -/
def lanesNarrowsWrong : ChangeSpec := { name := "lanesNarrows", fn := fun _ => fun
  | [d1, d2, d3, d4, d5] => { results := [.lit (.bool false)], args := [d1, d2, d3, d4, d5] }
  | _ => none }
def LanesNarrowsWrongFalsely : Prop := lanesNarrowsRow.holds Tryz.pinned (OpenSpec.ofChange lanesNarrowsWrong)

/-- 'bodkinlaw06.LanesWidens': WHATEVER THE INPUT: true; the input reads as it did. -/
def lanesWidensSpec : ChangeSpec := { name := "lanesWidens", fn := fun _ => fun
  | [d1, d2, d3, d4, d5] => { results := [.lit (.bool true)], args := [d1, d2, d3, d4, d5] }
  | _ => none }
def lanesWidensRow : OpenClaim := { program := "ytlhakbkdlgejpaagreatdoor", sum := "aff338df2cdd20fcd1784d0ce7829784da80476d65ccae59504def00b5a30683", func := "bodkin/bodkinlaw06.LanesWidens", spec := "lanesWidens", inPlace := ["internal/bytealg.IndexByteString", "internal/bytealg.IndexString", "math.Float32frombits", "math.Float64frombits", "math.archTrunc", "math.Float64bits", "math.Float32bits", "math.sqrt", "math.archCeil", "math.archFloor", "math.RoundToEven"], unfollowed := true, recurses := true, named := ["bodkin/ops.laneCounts", "bodkin/ops.plainAligns", "bodkin/ops.vectorAligns", "bodkin/ops.laneAligns", "bodkin/ops.lists", "internal/bytealg.MaxLen"], apart := false, laid := [("bodkin/ops.plainAligns", laid_bodkin_ops_plainAligns), ("bodkin/ops.vectorAligns", laid_bodkin_ops_vectorAligns), ("bodkin/ops.laneAligns", laid_bodkin_ops_laneAligns), ("bodkin/ops.laneCounts", laid_bodkin_ops_laneCounts), ("bodkin/ops.lists", laid_bodkin_ops_lists)] }
def LanesWidensSaid : Prop := lanesWidensRow.holds Tryz.pinned (OpenSpec.ofChange lanesWidensSpec)

/-- ITS FALSE NEIGHBOUR: 'it returns false'. Refute it at one input. -/
def lanesWidensWrong : ChangeSpec := { name := "lanesWidens", fn := fun _ => fun
  | [d1, d2, d3, d4, d5] => { results := [.lit (.bool false)], args := [d1, d2, d3, d4, d5] }
  | _ => none }
def LanesWidensWrongFalsely : Prop := lanesWidensRow.holds Tryz.pinned (OpenSpec.ofChange lanesWidensWrong)

/-- 'bodkinlaw06.LanesProducts': WHATEVER THE INPUT: true; the input reads as it did. -/
def lanesProductsSpec : ChangeSpec := { name := "lanesProducts", fn := fun _ => fun
  | [d1, d2, d3, d4, d5] => { results := [.lit (.bool true)], args := [d1, d2, d3, d4, d5] }
  | _ => none }
def lanesProductsRow : OpenClaim := { program := "ytlhakbkdlgejpaagreatdoor", sum := "aff338df2cdd20fcd1784d0ce7829784da80476d65ccae59504def00b5a30683", func := "bodkin/bodkinlaw06.LanesProducts", spec := "lanesProducts", inPlace := ["internal/bytealg.IndexByteString", "internal/bytealg.IndexString", "math.Float32frombits", "math.Float64frombits", "math.archTrunc", "math.Float64bits", "math.Float32bits", "math.sqrt", "math.archCeil", "math.archFloor", "math.RoundToEven"], unfollowed := true, recurses := true, named := ["bodkin/ops.laneCounts", "bodkin/ops.plainAligns", "bodkin/ops.vectorAligns", "bodkin/ops.laneAligns", "bodkin/ops.lists", "internal/bytealg.MaxLen"], apart := false, laid := [("bodkin/ops.plainAligns", laid_bodkin_ops_plainAligns), ("bodkin/ops.vectorAligns", laid_bodkin_ops_vectorAligns), ("bodkin/ops.laneAligns", laid_bodkin_ops_laneAligns), ("bodkin/ops.laneCounts", laid_bodkin_ops_laneCounts), ("bodkin/ops.lists", laid_bodkin_ops_lists)] }
def LanesProductsSaid : Prop := lanesProductsRow.holds Tryz.pinned (OpenSpec.ofChange lanesProductsSpec)

/-- ITS FALSE NEIGHBOUR: 'it returns false'. Refute it at one input. -/
def lanesProductsWrong : ChangeSpec := { name := "lanesProducts", fn := fun _ => fun
  | [d1, d2, d3, d4, d5] => { results := [.lit (.bool false)], args := [d1, d2, d3, d4, d5] }
  | _ => none }
def LanesProductsWrongFalsely : Prop := lanesProductsRow.holds Tryz.pinned (OpenSpec.ofChange lanesProductsWrong)

/-- 'bodkinlaw06.LanesChooses': WHATEVER THE INPUT: true; the input reads as it did. -/
def lanesChoosesSpec : ChangeSpec := { name := "lanesChooses", fn := fun _ => fun
  | [d1, d2, d3, d4, d5] => { results := [.lit (.bool true)], args := [d1, d2, d3, d4, d5] }
  | _ => none }
def lanesChoosesRow : OpenClaim := { program := "ytlhakbkdlgejpaagreatdoor", sum := "aff338df2cdd20fcd1784d0ce7829784da80476d65ccae59504def00b5a30683", func := "bodkin/bodkinlaw06.LanesChooses", spec := "lanesChooses", inPlace := ["internal/bytealg.IndexByteString", "internal/bytealg.IndexString", "math.Float32frombits", "math.Float64frombits", "math.archTrunc", "math.Float64bits", "math.Float32bits", "math.sqrt", "math.archCeil", "math.archFloor", "math.RoundToEven"], unfollowed := true, recurses := true, named := ["bodkin/ops.laneCounts", "bodkin/ops.plainAligns", "bodkin/ops.vectorAligns", "bodkin/ops.laneAligns", "bodkin/ops.lists", "internal/bytealg.MaxLen"], apart := false, laid := [("bodkin/ops.plainAligns", laid_bodkin_ops_plainAligns), ("bodkin/ops.vectorAligns", laid_bodkin_ops_vectorAligns), ("bodkin/ops.laneAligns", laid_bodkin_ops_laneAligns), ("bodkin/ops.laneCounts", laid_bodkin_ops_laneCounts), ("bodkin/ops.lists", laid_bodkin_ops_lists)] }
def LanesChoosesSaid : Prop := lanesChoosesRow.holds Tryz.pinned (OpenSpec.ofChange lanesChoosesSpec)

/-- ITS FALSE NEIGHBOUR: 'it returns false'. Refute it at one input. -/
def lanesChoosesWrong : ChangeSpec := { name := "lanesChooses", fn := fun _ => fun
  | [d1, d2, d3, d4, d5] => { results := [.lit (.bool false)], args := [d1, d2, d3, d4, d5] }
  | _ => none }
def LanesChoosesWrongFalsely : Prop := lanesChoosesRow.holds Tryz.pinned (OpenSpec.ofChange lanesChoosesWrong)

/-- 'bodkinlaw06.LanesBits': WHATEVER THE INPUT: true; the input reads as it did. -/
def lanesBitsSpec : ChangeSpec := { name := "lanesBits", fn := fun _ => fun
  | [d1, d2, d3, d4, d5] => { results := [.lit (.bool true)], args := [d1, d2, d3, d4, d5] }
  | _ => none }
def lanesBitsRow : OpenClaim := { program := "ytlhakbkdlgejpaagreatdoor", sum := "aff338df2cdd20fcd1784d0ce7829784da80476d65ccae59504def00b5a30683", func := "bodkin/bodkinlaw06.LanesBits", spec := "lanesBits", inPlace := ["internal/bytealg.IndexByteString", "internal/bytealg.IndexString", "math.Float32frombits", "math.Float64frombits", "math.archTrunc", "math.Float64bits", "math.Float32bits", "math.sqrt", "math.archCeil", "math.archFloor", "math.RoundToEven"], unfollowed := true, recurses := true, named := ["bodkin/ops.laneCounts", "bodkin/ops.plainAligns", "bodkin/ops.vectorAligns", "bodkin/ops.laneAligns", "bodkin/ops.lists", "internal/bytealg.MaxLen"], apart := false, laid := [("bodkin/ops.plainAligns", laid_bodkin_ops_plainAligns), ("bodkin/ops.vectorAligns", laid_bodkin_ops_vectorAligns), ("bodkin/ops.laneAligns", laid_bodkin_ops_laneAligns), ("bodkin/ops.laneCounts", laid_bodkin_ops_laneCounts), ("bodkin/ops.lists", laid_bodkin_ops_lists)] }
def LanesBitsSaid : Prop := lanesBitsRow.holds Tryz.pinned (OpenSpec.ofChange lanesBitsSpec)

/-- ITS FALSE NEIGHBOUR: 'it returns false'. Refute it at one input. -/
def lanesBitsWrong : ChangeSpec := { name := "lanesBits", fn := fun _ => fun
  | [d1, d2, d3, d4, d5] => { results := [.lit (.bool false)], args := [d1, d2, d3, d4, d5] }
  | _ => none }
def LanesBitsWrongFalsely : Prop := lanesBitsRow.holds Tryz.pinned (OpenSpec.ofChange lanesBitsWrong)

/-- 'bodkinlaw07.ScalarTraps': WHATEVER THE INPUT: true; the input reads as it did. -/
def scalarTrapsSpec : ChangeSpec := { name := "scalarTraps", fn := fun _ => fun
  | [d1, d2, d3] => { results := [.lit (.bool true)], args := [d1, d2, d3] }
  | _ => none }
def scalarTrapsRow : OpenClaim := { program := "ytlhakbkdlgejpaagreatdoor", sum := "aff338df2cdd20fcd1784d0ce7829784da80476d65ccae59504def00b5a30683", func := "bodkin/bodkinlaw07.ScalarTraps", spec := "scalarTraps", inPlace := ["internal/bytealg.IndexByteString", "internal/bytealg.IndexString"], unfollowed := true, recurses := true, named := ["bodkin/ops.laneCounts", "bodkin/ops.plainAligns", "bodkin/ops.vectorAligns", "bodkin/ops.laneAligns", "bodkin/ops.lists", "internal/bytealg.MaxLen", "bodkin/scalar.floatUnaries"], apart := false, laid := [("bodkin/ops.plainAligns", laid_bodkin_ops_plainAligns), ("bodkin/ops.vectorAligns", laid_bodkin_ops_vectorAligns), ("bodkin/ops.laneAligns", laid_bodkin_ops_laneAligns), ("bodkin/ops.laneCounts", laid_bodkin_ops_laneCounts), ("bodkin/ops.lists", laid_bodkin_ops_lists), ("bodkin/scalar.floatUnaries", laid_bodkin_scalar_floatUnaries)] }
def ScalarTrapsSaid : Prop := scalarTrapsRow.holds Tryz.pinned (OpenSpec.ofChange scalarTrapsSpec)

/-- ITS FALSE NEIGHBOUR: 'it returns false'. Refute it at one input. -/
def scalarTrapsWrong : ChangeSpec := { name := "scalarTraps", fn := fun _ => fun
  | [d1, d2, d3] => { results := [.lit (.bool false)], args := [d1, d2, d3] }
  | _ => none }
def ScalarTrapsWrongFalsely : Prop := scalarTrapsRow.holds Tryz.pinned (OpenSpec.ofChange scalarTrapsWrong)

/-- 'bodkinlaw07.ScalarWords': WHATEVER THE INPUT: true; the input reads as it did. -/
def scalarWordsSpec : ChangeSpec := { name := "scalarWords", fn := fun _ => fun
  | [d1, d2] => { results := [.lit (.bool true)], args := [d1, d2] }
  | _ => none }
def scalarWordsRow : OpenClaim := { program := "ytlhakbkdlgejpaagreatdoor", sum := "aff338df2cdd20fcd1784d0ce7829784da80476d65ccae59504def00b5a30683", func := "bodkin/bodkinlaw07.ScalarWords", spec := "scalarWords", inPlace := ["internal/bytealg.IndexByteString", "internal/bytealg.IndexString", "math.Float32frombits", "math.Float64frombits", "math.archTrunc", "math.Float64bits", "math.Float32bits", "math.sqrt", "math.archCeil", "math.archFloor", "math.RoundToEven"], unfollowed := true, recurses := true, named := ["bodkin/ops.laneCounts", "bodkin/ops.plainAligns", "bodkin/ops.vectorAligns", "bodkin/ops.laneAligns", "bodkin/ops.lists", "internal/bytealg.MaxLen", "bodkin/scalar.floatUnaries"], apart := false, laid := [("bodkin/ops.plainAligns", laid_bodkin_ops_plainAligns), ("bodkin/ops.vectorAligns", laid_bodkin_ops_vectorAligns), ("bodkin/ops.laneAligns", laid_bodkin_ops_laneAligns), ("bodkin/ops.laneCounts", laid_bodkin_ops_laneCounts), ("bodkin/ops.lists", laid_bodkin_ops_lists), ("bodkin/scalar.floatUnaries", laid_bodkin_scalar_floatUnaries)] }
def ScalarWordsSaid : Prop := scalarWordsRow.holds Tryz.pinned (OpenSpec.ofChange scalarWordsSpec)

/-- ITS FALSE NEIGHBOUR: 'it returns false'. Refute it at one input. -/
def scalarWordsWrong : ChangeSpec := { name := "scalarWords", fn := fun _ => fun
  | [d1, d2] => { results := [.lit (.bool false)], args := [d1, d2] }
  | _ => none }
def ScalarWordsWrongFalsely : Prop := scalarWordsRow.holds Tryz.pinned (OpenSpec.ofChange scalarWordsWrong)

/-- 'bodkinlaw07.ScalarLongs': WHATEVER THE INPUT: true; the input reads as it did. -/
def scalarLongsSpec : ChangeSpec := { name := "scalarLongs", fn := fun _ => fun
  | [d1, d2] => { results := [.lit (.bool true)], args := [d1, d2] }
  | _ => none }
def scalarLongsRow : OpenClaim := { program := "ytlhakbkdlgejpaagreatdoor", sum := "aff338df2cdd20fcd1784d0ce7829784da80476d65ccae59504def00b5a30683", func := "bodkin/bodkinlaw07.ScalarLongs", spec := "scalarLongs", inPlace := ["internal/bytealg.IndexByteString", "internal/bytealg.IndexString", "math.Float32frombits", "math.Float64frombits", "math.archTrunc", "math.Float64bits", "math.Float32bits", "math.sqrt", "math.archCeil", "math.archFloor", "math.RoundToEven"], unfollowed := true, recurses := true, named := ["bodkin/ops.laneCounts", "bodkin/ops.plainAligns", "bodkin/ops.vectorAligns", "bodkin/ops.laneAligns", "bodkin/ops.lists", "internal/bytealg.MaxLen", "bodkin/scalar.floatUnaries"], apart := false, laid := [("bodkin/ops.plainAligns", laid_bodkin_ops_plainAligns), ("bodkin/ops.vectorAligns", laid_bodkin_ops_vectorAligns), ("bodkin/ops.laneAligns", laid_bodkin_ops_laneAligns), ("bodkin/ops.laneCounts", laid_bodkin_ops_laneCounts), ("bodkin/ops.lists", laid_bodkin_ops_lists), ("bodkin/scalar.floatUnaries", laid_bodkin_scalar_floatUnaries)] }
def ScalarLongsSaid : Prop := scalarLongsRow.holds Tryz.pinned (OpenSpec.ofChange scalarLongsSpec)

/-- ITS FALSE NEIGHBOUR: 'it returns false'. Refute it at one input. -/
def scalarLongsWrong : ChangeSpec := { name := "scalarLongs", fn := fun _ => fun
  | [d1, d2] => { results := [.lit (.bool false)], args := [d1, d2] }
  | _ => none }
def ScalarLongsWrongFalsely : Prop := scalarLongsRow.holds Tryz.pinned (OpenSpec.ofChange scalarLongsWrong)

/-- 'bodkinlaw07.ScalarStand': WHATEVER THE INPUT: true; the input reads as it did. -/
def scalarStandSpec : ChangeSpec := { name := "scalarStand", fn := fun _ => fun
  | [d1, d2] => { results := [.lit (.bool true)], args := [d1, d2] }
  | _ => none }
def scalarStandRow : OpenClaim := { program := "ytlhakbkdlgejpaagreatdoor", sum := "aff338df2cdd20fcd1784d0ce7829784da80476d65ccae59504def00b5a30683", func := "bodkin/bodkinlaw07.ScalarStand", spec := "scalarStand", inPlace := ["internal/bytealg.IndexByteString", "internal/bytealg.IndexString", "math.Float32frombits", "math.Float64frombits", "math.archTrunc", "math.Float64bits", "math.Float32bits", "math.sqrt", "math.archCeil", "math.archFloor", "math.RoundToEven"], unfollowed := true, recurses := true, named := ["bodkin/ops.laneCounts", "bodkin/ops.plainAligns", "bodkin/ops.vectorAligns", "bodkin/ops.laneAligns", "bodkin/ops.lists", "internal/bytealg.MaxLen", "bodkin/scalar.floatUnaries"], apart := false, laid := [("bodkin/ops.plainAligns", laid_bodkin_ops_plainAligns), ("bodkin/ops.vectorAligns", laid_bodkin_ops_vectorAligns), ("bodkin/ops.laneAligns", laid_bodkin_ops_laneAligns), ("bodkin/ops.laneCounts", laid_bodkin_ops_laneCounts), ("bodkin/ops.lists", laid_bodkin_ops_lists), ("bodkin/scalar.floatUnaries", laid_bodkin_scalar_floatUnaries)] }
def ScalarStandSaid : Prop := scalarStandRow.holds Tryz.pinned (OpenSpec.ofChange scalarStandSpec)

/-- ITS FALSE NEIGHBOUR: 'it returns false'. Refute it at one input. -/
def scalarStandWrong : ChangeSpec := { name := "scalarStand", fn := fun _ => fun
  | [d1, d2] => { results := [.lit (.bool false)], args := [d1, d2] }
  | _ => none }
def ScalarStandWrongFalsely : Prop := scalarStandRow.holds Tryz.pinned (OpenSpec.ofChange scalarStandWrong)

/-- 'bodkinlaw07.ScalarFloats': WHATEVER THE INPUT: true; the input reads as it did. -/
def scalarFloatsSpec : ChangeSpec := { name := "scalarFloats", fn := fun _ => fun
  | [d1, d2] => { results := [.lit (.bool true)], args := [d1, d2] }
  | _ => none }
def scalarFloatsRow : OpenClaim := { program := "ytlhakbkdlgejpaagreatdoor", sum := "aff338df2cdd20fcd1784d0ce7829784da80476d65ccae59504def00b5a30683", func := "bodkin/bodkinlaw07.ScalarFloats", spec := "scalarFloats", inPlace := ["internal/bytealg.IndexByteString", "internal/bytealg.IndexString", "math.Float32frombits", "math.Float64frombits", "math.archTrunc", "math.Float64bits", "math.Float32bits", "math.sqrt", "math.archCeil", "math.archFloor", "math.RoundToEven"], unfollowed := true, recurses := true, named := ["bodkin/ops.laneCounts", "bodkin/ops.plainAligns", "bodkin/ops.vectorAligns", "bodkin/ops.laneAligns", "bodkin/ops.lists", "internal/bytealg.MaxLen", "bodkin/scalar.floatUnaries"], apart := false, laid := [("bodkin/ops.plainAligns", laid_bodkin_ops_plainAligns), ("bodkin/ops.vectorAligns", laid_bodkin_ops_vectorAligns), ("bodkin/ops.laneAligns", laid_bodkin_ops_laneAligns), ("bodkin/ops.laneCounts", laid_bodkin_ops_laneCounts), ("bodkin/ops.lists", laid_bodkin_ops_lists), ("bodkin/scalar.floatUnaries", laid_bodkin_scalar_floatUnaries)] }
def ScalarFloatsSaid : Prop := scalarFloatsRow.holds Tryz.pinned (OpenSpec.ofChange scalarFloatsSpec)

/-- ITS FALSE NEIGHBOUR: 'it returns false'. Refute it at one input. -/
def scalarFloatsWrong : ChangeSpec := { name := "scalarFloats", fn := fun _ => fun
  | [d1, d2] => { results := [.lit (.bool false)], args := [d1, d2] }
  | _ => none }
def ScalarFloatsWrongFalsely : Prop := scalarFloatsRow.holds Tryz.pinned (OpenSpec.ofChange scalarFloatsWrong)

/-- 'bodkinlaw07.ScalarHeld': WHATEVER THE INPUT: true; the input reads as it did. -/
def scalarHeldSpec : ChangeSpec := { name := "scalarHeld", fn := fun _ => fun
  | [d1, d2] => { results := [.lit (.bool true)], args := [d1, d2] }
  | _ => none }
def scalarHeldRow : OpenClaim := { program := "ytlhakbkdlgejpaagreatdoor", sum := "aff338df2cdd20fcd1784d0ce7829784da80476d65ccae59504def00b5a30683", func := "bodkin/bodkinlaw07.ScalarHeld", spec := "scalarHeld", inPlace := ["internal/bytealg.IndexByteString", "internal/bytealg.IndexString", "math.Float32frombits", "math.Float64frombits", "math.archTrunc", "math.Float64bits", "math.Float32bits", "math.sqrt", "math.archCeil", "math.archFloor", "math.RoundToEven"], unfollowed := true, recurses := true, named := ["bodkin/ops.laneCounts", "bodkin/ops.plainAligns", "bodkin/ops.vectorAligns", "bodkin/ops.laneAligns", "bodkin/ops.lists", "internal/bytealg.MaxLen", "bodkin/scalar.floatUnaries"], apart := false, laid := [("bodkin/ops.plainAligns", laid_bodkin_ops_plainAligns), ("bodkin/ops.vectorAligns", laid_bodkin_ops_vectorAligns), ("bodkin/ops.laneAligns", laid_bodkin_ops_laneAligns), ("bodkin/ops.laneCounts", laid_bodkin_ops_laneCounts), ("bodkin/ops.lists", laid_bodkin_ops_lists), ("bodkin/scalar.floatUnaries", laid_bodkin_scalar_floatUnaries)] }
def ScalarHeldSaid : Prop := scalarHeldRow.holds Tryz.pinned (OpenSpec.ofChange scalarHeldSpec)

/-- ITS FALSE NEIGHBOUR: 'it returns false'. Refute it at one input. -/
def scalarHeldWrong : ChangeSpec := { name := "scalarHeld", fn := fun _ => fun
  | [d1, d2] => { results := [.lit (.bool false)], args := [d1, d2] }
  | _ => none }
def ScalarHeldWrongFalsely : Prop := scalarHeldRow.holds Tryz.pinned (OpenSpec.ofChange scalarHeldWrong)

/- THE SECOND FORM. 'bulk': how many values and letters a reading holds, each counted each time it is reached (what is shared counts as often as it is met; a slice's spare places count too). A statement '..UptoSaid' is the law's where the arguments, and the package variables that the reading takes, are together of bulk at most 1048576: NARROWER than '..Said'. Prove '..Said' where nothing that the law and all that it calls make is longer than what came in: it says more and counts as full. Else prove '..UptoSaid'. A law counts once. -/
mutual
def uptoBulk {H : Type} : DataW H → Nat
  | .lit (.string bytes) => bytes.length + 1
  | .lit _ => 1
  | .nil => 1
  | .ptr d => uptoBulk d + 1
  | .slice elems spare => uptoBulkAll elems + uptoBulkAll spare + 1
  | .agg parts => uptoBulkAll parts + 1
  | .iface _ d => uptoBulk d + 1
  | .map entries => uptoBulkEntries entries + 1
  | .held _ => 1
def uptoBulkAll {H : Type} : List (DataW H) → Nat
  | [] => 0
  | d :: r => uptoBulk d + uptoBulkAll r
def uptoBulkEntries {H : Type} : List (Lit × DataW H) → Nat
  | [] => 0
  | x :: r => uptoBulkEntry x + uptoBulkEntries r
def uptoBulkEntry {H : Type} : Lit × DataW H → Nat
  | (.string bytes, d) => bytes.length + uptoBulk d + 1
  | (_, d) => uptoBulk d + 1
 end
def uptoSmall : (H : Type) → List (DataW H) → Bool := fun _ ds => decide (uptoBulkAll ds ≤ 1048576)
def OpenSpec.upto (s : _root_.Go.ChangeSpec) : _root_.Go.OpenSpec := { _root_.Go.OpenSpec.ofChange s with cond := some uptoSmall }

/-- 'bodkinlaw06.LanesReplaces', WHERE WHAT IT READS IS OF BULK AT MOST 1048576: true; the input reads as it did. -/
def lanesReplacesUptoRow : OpenClaim := { program := "ytlhakbkdlgejpaagreatdoor", sum := "aff338df2cdd20fcd1784d0ce7829784da80476d65ccae59504def00b5a30683", func := "bodkin/bodkinlaw06.LanesReplaces", spec := "lanesReplaces", inPlace := ["internal/bytealg.IndexByteString", "internal/bytealg.IndexString"], unfollowed := true, recurses := true, named := ["bodkin/ops.laneCounts", "bodkin/ops.plainAligns", "bodkin/ops.vectorAligns", "bodkin/ops.laneAligns", "bodkin/ops.lists", "internal/bytealg.MaxLen"], apart := false, laid := [("bodkin/ops.plainAligns", laid_bodkin_ops_plainAligns), ("bodkin/ops.vectorAligns", laid_bodkin_ops_vectorAligns), ("bodkin/ops.laneAligns", laid_bodkin_ops_laneAligns), ("bodkin/ops.laneCounts", laid_bodkin_ops_laneCounts), ("bodkin/ops.lists", laid_bodkin_ops_lists)], narrowed := true }
def LanesReplacesUptoSaid : Prop := lanesReplacesUptoRow.holds Tryz.pinned (OpenSpec.upto lanesReplacesSpec)

/-- 'bodkinlaw06.LanesMoves', WHERE WHAT IT READS IS OF BULK AT MOST 1048576: true; the input reads as it did. -/
def lanesMovesUptoRow : OpenClaim := { program := "ytlhakbkdlgejpaagreatdoor", sum := "aff338df2cdd20fcd1784d0ce7829784da80476d65ccae59504def00b5a30683", func := "bodkin/bodkinlaw06.LanesMoves", spec := "lanesMoves", inPlace := ["internal/bytealg.IndexByteString", "internal/bytealg.IndexString", "math.Float32frombits", "math.Float64frombits", "math.archTrunc", "math.Float64bits", "math.Float32bits", "math.sqrt", "math.archCeil", "math.archFloor", "math.RoundToEven"], unfollowed := true, recurses := true, named := ["bodkin/ops.laneCounts", "bodkin/ops.plainAligns", "bodkin/ops.vectorAligns", "bodkin/ops.laneAligns", "bodkin/ops.lists", "internal/bytealg.MaxLen"], apart := false, laid := [("bodkin/ops.plainAligns", laid_bodkin_ops_plainAligns), ("bodkin/ops.vectorAligns", laid_bodkin_ops_vectorAligns), ("bodkin/ops.laneAligns", laid_bodkin_ops_laneAligns), ("bodkin/ops.laneCounts", laid_bodkin_ops_laneCounts), ("bodkin/ops.lists", laid_bodkin_ops_lists)], narrowed := true }
def LanesMovesUptoSaid : Prop := lanesMovesUptoRow.holds Tryz.pinned (OpenSpec.upto lanesMovesSpec)

/-- 'bodkinlaw06.LanesFloatsStand', WHERE WHAT IT READS IS OF BULK AT MOST 1048576: true; the input reads as it did. -/
def lanesFloatsStandUptoRow : OpenClaim := { program := "ytlhakbkdlgejpaagreatdoor", sum := "aff338df2cdd20fcd1784d0ce7829784da80476d65ccae59504def00b5a30683", func := "bodkin/bodkinlaw06.LanesFloatsStand", spec := "lanesFloatsStand", inPlace := ["internal/bytealg.IndexByteString", "internal/bytealg.IndexString", "math.Float32frombits", "math.Float64frombits", "math.archTrunc", "math.Float64bits", "math.Float32bits", "math.sqrt", "math.archCeil", "math.archFloor", "math.RoundToEven"], unfollowed := true, recurses := true, named := ["bodkin/ops.laneCounts", "bodkin/ops.plainAligns", "bodkin/ops.vectorAligns", "bodkin/ops.laneAligns", "bodkin/ops.lists", "internal/bytealg.MaxLen"], apart := false, laid := [("bodkin/ops.plainAligns", laid_bodkin_ops_plainAligns), ("bodkin/ops.vectorAligns", laid_bodkin_ops_vectorAligns), ("bodkin/ops.laneAligns", laid_bodkin_ops_laneAligns), ("bodkin/ops.laneCounts", laid_bodkin_ops_laneCounts), ("bodkin/ops.lists", laid_bodkin_ops_lists)], narrowed := true }
def LanesFloatsStandUptoSaid : Prop := lanesFloatsStandUptoRow.holds Tryz.pinned (OpenSpec.upto lanesFloatsStandSpec)

/-- 'bodkinlaw06.LanesFloats', WHERE WHAT IT READS IS OF BULK AT MOST 1048576: true; the input reads as it did. -/
def lanesFloatsUptoRow : OpenClaim := { program := "ytlhakbkdlgejpaagreatdoor", sum := "aff338df2cdd20fcd1784d0ce7829784da80476d65ccae59504def00b5a30683", func := "bodkin/bodkinlaw06.LanesFloats", spec := "lanesFloats", inPlace := ["internal/bytealg.IndexByteString", "internal/bytealg.IndexString", "math.Float32frombits", "math.Float64frombits", "math.archTrunc", "math.Float64bits", "math.Float32bits", "math.sqrt", "math.archCeil", "math.archFloor", "math.RoundToEven"], unfollowed := true, recurses := true, named := ["bodkin/ops.laneCounts", "bodkin/ops.plainAligns", "bodkin/ops.vectorAligns", "bodkin/ops.laneAligns", "bodkin/ops.lists", "internal/bytealg.MaxLen"], apart := false, laid := [("bodkin/ops.plainAligns", laid_bodkin_ops_plainAligns), ("bodkin/ops.vectorAligns", laid_bodkin_ops_vectorAligns), ("bodkin/ops.laneAligns", laid_bodkin_ops_laneAligns), ("bodkin/ops.laneCounts", laid_bodkin_ops_laneCounts), ("bodkin/ops.lists", laid_bodkin_ops_lists)], narrowed := true }
def LanesFloatsUptoSaid : Prop := lanesFloatsUptoRow.holds Tryz.pinned (OpenSpec.upto lanesFloatsSpec)

/-- 'bodkinlaw06.LanesFloatOnes', WHERE WHAT IT READS IS OF BULK AT MOST 1048576: true; the input reads as it did. -/
def lanesFloatOnesUptoRow : OpenClaim := { program := "ytlhakbkdlgejpaagreatdoor", sum := "aff338df2cdd20fcd1784d0ce7829784da80476d65ccae59504def00b5a30683", func := "bodkin/bodkinlaw06.LanesFloatOnes", spec := "lanesFloatOnes", inPlace := ["internal/bytealg.IndexByteString", "internal/bytealg.IndexString", "math.Float32frombits", "math.Float64frombits", "math.archTrunc", "math.Float64bits", "math.Float32bits", "math.sqrt", "math.archCeil", "math.archFloor", "math.RoundToEven"], unfollowed := true, recurses := true, named := ["bodkin/ops.laneCounts", "bodkin/ops.plainAligns", "bodkin/ops.vectorAligns", "bodkin/ops.laneAligns", "bodkin/ops.lists", "internal/bytealg.MaxLen"], apart := false, laid := [("bodkin/ops.plainAligns", laid_bodkin_ops_plainAligns), ("bodkin/ops.vectorAligns", laid_bodkin_ops_vectorAligns), ("bodkin/ops.laneAligns", laid_bodkin_ops_laneAligns), ("bodkin/ops.laneCounts", laid_bodkin_ops_laneCounts), ("bodkin/ops.lists", laid_bodkin_ops_lists)], narrowed := true }
def LanesFloatOnesUptoSaid : Prop := lanesFloatOnesUptoRow.holds Tryz.pinned (OpenSpec.upto lanesFloatOnesSpec)

/-- 'bodkinlaw06.LanesNarrows', WHERE WHAT IT READS IS OF BULK AT MOST 1048576: true; the input reads as it did. -/
def lanesNarrowsUptoRow : OpenClaim := { program := "ytlhakbkdlgejpaagreatdoor", sum := "aff338df2cdd20fcd1784d0ce7829784da80476d65ccae59504def00b5a30683", func := "bodkin/bodkinlaw06.LanesNarrows", spec := "lanesNarrows", inPlace := ["internal/bytealg.IndexByteString", "internal/bytealg.IndexString", "math.Float32frombits", "math.Float64frombits", "math.archTrunc", "math.Float64bits", "math.Float32bits", "math.sqrt", "math.archCeil", "math.archFloor", "math.RoundToEven"], unfollowed := true, recurses := true, named := ["bodkin/ops.laneCounts", "bodkin/ops.plainAligns", "bodkin/ops.vectorAligns", "bodkin/ops.laneAligns", "bodkin/ops.lists", "internal/bytealg.MaxLen"], apart := false, laid := [("bodkin/ops.plainAligns", laid_bodkin_ops_plainAligns), ("bodkin/ops.vectorAligns", laid_bodkin_ops_vectorAligns), ("bodkin/ops.laneAligns", laid_bodkin_ops_laneAligns), ("bodkin/ops.laneCounts", laid_bodkin_ops_laneCounts), ("bodkin/ops.lists", laid_bodkin_ops_lists)], narrowed := true }
def LanesNarrowsUptoSaid : Prop := lanesNarrowsUptoRow.holds Tryz.pinned (OpenSpec.upto lanesNarrowsSpec)

/-- 'bodkinlaw06.LanesWidens', WHERE WHAT IT READS IS OF BULK AT MOST 1048576: true; the input reads as it did. -/
def lanesWidensUptoRow : OpenClaim := { program := "ytlhakbkdlgejpaagreatdoor", sum := "aff338df2cdd20fcd1784d0ce7829784da80476d65ccae59504def00b5a30683", func := "bodkin/bodkinlaw06.LanesWidens", spec := "lanesWidens", inPlace := ["internal/bytealg.IndexByteString", "internal/bytealg.IndexString", "math.Float32frombits", "math.Float64frombits", "math.archTrunc", "math.Float64bits", "math.Float32bits", "math.sqrt", "math.archCeil", "math.archFloor", "math.RoundToEven"], unfollowed := true, recurses := true, named := ["bodkin/ops.laneCounts", "bodkin/ops.plainAligns", "bodkin/ops.vectorAligns", "bodkin/ops.laneAligns", "bodkin/ops.lists", "internal/bytealg.MaxLen"], apart := false, laid := [("bodkin/ops.plainAligns", laid_bodkin_ops_plainAligns), ("bodkin/ops.vectorAligns", laid_bodkin_ops_vectorAligns), ("bodkin/ops.laneAligns", laid_bodkin_ops_laneAligns), ("bodkin/ops.laneCounts", laid_bodkin_ops_laneCounts), ("bodkin/ops.lists", laid_bodkin_ops_lists)], narrowed := true }
def LanesWidensUptoSaid : Prop := lanesWidensUptoRow.holds Tryz.pinned (OpenSpec.upto lanesWidensSpec)

/-- 'bodkinlaw06.LanesProducts', WHERE WHAT IT READS IS OF BULK AT MOST 1048576: true; the input reads as it did. -/
def lanesProductsUptoRow : OpenClaim := { program := "ytlhakbkdlgejpaagreatdoor", sum := "aff338df2cdd20fcd1784d0ce7829784da80476d65ccae59504def00b5a30683", func := "bodkin/bodkinlaw06.LanesProducts", spec := "lanesProducts", inPlace := ["internal/bytealg.IndexByteString", "internal/bytealg.IndexString", "math.Float32frombits", "math.Float64frombits", "math.archTrunc", "math.Float64bits", "math.Float32bits", "math.sqrt", "math.archCeil", "math.archFloor", "math.RoundToEven"], unfollowed := true, recurses := true, named := ["bodkin/ops.laneCounts", "bodkin/ops.plainAligns", "bodkin/ops.vectorAligns", "bodkin/ops.laneAligns", "bodkin/ops.lists", "internal/bytealg.MaxLen"], apart := false, laid := [("bodkin/ops.plainAligns", laid_bodkin_ops_plainAligns), ("bodkin/ops.vectorAligns", laid_bodkin_ops_vectorAligns), ("bodkin/ops.laneAligns", laid_bodkin_ops_laneAligns), ("bodkin/ops.laneCounts", laid_bodkin_ops_laneCounts), ("bodkin/ops.lists", laid_bodkin_ops_lists)], narrowed := true }
def LanesProductsUptoSaid : Prop := lanesProductsUptoRow.holds Tryz.pinned (OpenSpec.upto lanesProductsSpec)

/-- 'bodkinlaw06.LanesChooses', WHERE WHAT IT READS IS OF BULK AT MOST 1048576: true; the input reads as it did. -/
def lanesChoosesUptoRow : OpenClaim := { program := "ytlhakbkdlgejpaagreatdoor", sum := "aff338df2cdd20fcd1784d0ce7829784da80476d65ccae59504def00b5a30683", func := "bodkin/bodkinlaw06.LanesChooses", spec := "lanesChooses", inPlace := ["internal/bytealg.IndexByteString", "internal/bytealg.IndexString", "math.Float32frombits", "math.Float64frombits", "math.archTrunc", "math.Float64bits", "math.Float32bits", "math.sqrt", "math.archCeil", "math.archFloor", "math.RoundToEven"], unfollowed := true, recurses := true, named := ["bodkin/ops.laneCounts", "bodkin/ops.plainAligns", "bodkin/ops.vectorAligns", "bodkin/ops.laneAligns", "bodkin/ops.lists", "internal/bytealg.MaxLen"], apart := false, laid := [("bodkin/ops.plainAligns", laid_bodkin_ops_plainAligns), ("bodkin/ops.vectorAligns", laid_bodkin_ops_vectorAligns), ("bodkin/ops.laneAligns", laid_bodkin_ops_laneAligns), ("bodkin/ops.laneCounts", laid_bodkin_ops_laneCounts), ("bodkin/ops.lists", laid_bodkin_ops_lists)], narrowed := true }
def LanesChoosesUptoSaid : Prop := lanesChoosesUptoRow.holds Tryz.pinned (OpenSpec.upto lanesChoosesSpec)

/-- 'bodkinlaw06.LanesBits', WHERE WHAT IT READS IS OF BULK AT MOST 1048576: true; the input reads as it did. -/
def lanesBitsUptoRow : OpenClaim := { program := "ytlhakbkdlgejpaagreatdoor", sum := "aff338df2cdd20fcd1784d0ce7829784da80476d65ccae59504def00b5a30683", func := "bodkin/bodkinlaw06.LanesBits", spec := "lanesBits", inPlace := ["internal/bytealg.IndexByteString", "internal/bytealg.IndexString", "math.Float32frombits", "math.Float64frombits", "math.archTrunc", "math.Float64bits", "math.Float32bits", "math.sqrt", "math.archCeil", "math.archFloor", "math.RoundToEven"], unfollowed := true, recurses := true, named := ["bodkin/ops.laneCounts", "bodkin/ops.plainAligns", "bodkin/ops.vectorAligns", "bodkin/ops.laneAligns", "bodkin/ops.lists", "internal/bytealg.MaxLen"], apart := false, laid := [("bodkin/ops.plainAligns", laid_bodkin_ops_plainAligns), ("bodkin/ops.vectorAligns", laid_bodkin_ops_vectorAligns), ("bodkin/ops.laneAligns", laid_bodkin_ops_laneAligns), ("bodkin/ops.laneCounts", laid_bodkin_ops_laneCounts), ("bodkin/ops.lists", laid_bodkin_ops_lists)], narrowed := true }
def LanesBitsUptoSaid : Prop := lanesBitsUptoRow.holds Tryz.pinned (OpenSpec.upto lanesBitsSpec)

/-- 'bodkinlaw07.ScalarTraps', WHERE WHAT IT READS IS OF BULK AT MOST 1048576: true; the input reads as it did. -/
def scalarTrapsUptoRow : OpenClaim := { program := "ytlhakbkdlgejpaagreatdoor", sum := "aff338df2cdd20fcd1784d0ce7829784da80476d65ccae59504def00b5a30683", func := "bodkin/bodkinlaw07.ScalarTraps", spec := "scalarTraps", inPlace := ["internal/bytealg.IndexByteString", "internal/bytealg.IndexString"], unfollowed := true, recurses := true, named := ["bodkin/ops.laneCounts", "bodkin/ops.plainAligns", "bodkin/ops.vectorAligns", "bodkin/ops.laneAligns", "bodkin/ops.lists", "internal/bytealg.MaxLen", "bodkin/scalar.floatUnaries"], apart := false, laid := [("bodkin/ops.plainAligns", laid_bodkin_ops_plainAligns), ("bodkin/ops.vectorAligns", laid_bodkin_ops_vectorAligns), ("bodkin/ops.laneAligns", laid_bodkin_ops_laneAligns), ("bodkin/ops.laneCounts", laid_bodkin_ops_laneCounts), ("bodkin/ops.lists", laid_bodkin_ops_lists), ("bodkin/scalar.floatUnaries", laid_bodkin_scalar_floatUnaries)], narrowed := true }
def ScalarTrapsUptoSaid : Prop := scalarTrapsUptoRow.holds Tryz.pinned (OpenSpec.upto scalarTrapsSpec)

/-- 'bodkinlaw07.ScalarWords', WHERE WHAT IT READS IS OF BULK AT MOST 1048576: true; the input reads as it did. -/
def scalarWordsUptoRow : OpenClaim := { program := "ytlhakbkdlgejpaagreatdoor", sum := "aff338df2cdd20fcd1784d0ce7829784da80476d65ccae59504def00b5a30683", func := "bodkin/bodkinlaw07.ScalarWords", spec := "scalarWords", inPlace := ["internal/bytealg.IndexByteString", "internal/bytealg.IndexString", "math.Float32frombits", "math.Float64frombits", "math.archTrunc", "math.Float64bits", "math.Float32bits", "math.sqrt", "math.archCeil", "math.archFloor", "math.RoundToEven"], unfollowed := true, recurses := true, named := ["bodkin/ops.laneCounts", "bodkin/ops.plainAligns", "bodkin/ops.vectorAligns", "bodkin/ops.laneAligns", "bodkin/ops.lists", "internal/bytealg.MaxLen", "bodkin/scalar.floatUnaries"], apart := false, laid := [("bodkin/ops.plainAligns", laid_bodkin_ops_plainAligns), ("bodkin/ops.vectorAligns", laid_bodkin_ops_vectorAligns), ("bodkin/ops.laneAligns", laid_bodkin_ops_laneAligns), ("bodkin/ops.laneCounts", laid_bodkin_ops_laneCounts), ("bodkin/ops.lists", laid_bodkin_ops_lists), ("bodkin/scalar.floatUnaries", laid_bodkin_scalar_floatUnaries)], narrowed := true }
def ScalarWordsUptoSaid : Prop := scalarWordsUptoRow.holds Tryz.pinned (OpenSpec.upto scalarWordsSpec)

/-- 'bodkinlaw07.ScalarLongs', WHERE WHAT IT READS IS OF BULK AT MOST 1048576: true; the input reads as it did. -/
def scalarLongsUptoRow : OpenClaim := { program := "ytlhakbkdlgejpaagreatdoor", sum := "aff338df2cdd20fcd1784d0ce7829784da80476d65ccae59504def00b5a30683", func := "bodkin/bodkinlaw07.ScalarLongs", spec := "scalarLongs", inPlace := ["internal/bytealg.IndexByteString", "internal/bytealg.IndexString", "math.Float32frombits", "math.Float64frombits", "math.archTrunc", "math.Float64bits", "math.Float32bits", "math.sqrt", "math.archCeil", "math.archFloor", "math.RoundToEven"], unfollowed := true, recurses := true, named := ["bodkin/ops.laneCounts", "bodkin/ops.plainAligns", "bodkin/ops.vectorAligns", "bodkin/ops.laneAligns", "bodkin/ops.lists", "internal/bytealg.MaxLen", "bodkin/scalar.floatUnaries"], apart := false, laid := [("bodkin/ops.plainAligns", laid_bodkin_ops_plainAligns), ("bodkin/ops.vectorAligns", laid_bodkin_ops_vectorAligns), ("bodkin/ops.laneAligns", laid_bodkin_ops_laneAligns), ("bodkin/ops.laneCounts", laid_bodkin_ops_laneCounts), ("bodkin/ops.lists", laid_bodkin_ops_lists), ("bodkin/scalar.floatUnaries", laid_bodkin_scalar_floatUnaries)], narrowed := true }
def ScalarLongsUptoSaid : Prop := scalarLongsUptoRow.holds Tryz.pinned (OpenSpec.upto scalarLongsSpec)

/-- 'bodkinlaw07.ScalarStand', WHERE WHAT IT READS IS OF BULK AT MOST 1048576: true; the input reads as it did. -/
def scalarStandUptoRow : OpenClaim := { program := "ytlhakbkdlgejpaagreatdoor", sum := "aff338df2cdd20fcd1784d0ce7829784da80476d65ccae59504def00b5a30683", func := "bodkin/bodkinlaw07.ScalarStand", spec := "scalarStand", inPlace := ["internal/bytealg.IndexByteString", "internal/bytealg.IndexString", "math.Float32frombits", "math.Float64frombits", "math.archTrunc", "math.Float64bits", "math.Float32bits", "math.sqrt", "math.archCeil", "math.archFloor", "math.RoundToEven"], unfollowed := true, recurses := true, named := ["bodkin/ops.laneCounts", "bodkin/ops.plainAligns", "bodkin/ops.vectorAligns", "bodkin/ops.laneAligns", "bodkin/ops.lists", "internal/bytealg.MaxLen", "bodkin/scalar.floatUnaries"], apart := false, laid := [("bodkin/ops.plainAligns", laid_bodkin_ops_plainAligns), ("bodkin/ops.vectorAligns", laid_bodkin_ops_vectorAligns), ("bodkin/ops.laneAligns", laid_bodkin_ops_laneAligns), ("bodkin/ops.laneCounts", laid_bodkin_ops_laneCounts), ("bodkin/ops.lists", laid_bodkin_ops_lists), ("bodkin/scalar.floatUnaries", laid_bodkin_scalar_floatUnaries)], narrowed := true }
def ScalarStandUptoSaid : Prop := scalarStandUptoRow.holds Tryz.pinned (OpenSpec.upto scalarStandSpec)

/-- 'bodkinlaw07.ScalarFloats', WHERE WHAT IT READS IS OF BULK AT MOST 1048576: true; the input reads as it did. -/
def scalarFloatsUptoRow : OpenClaim := { program := "ytlhakbkdlgejpaagreatdoor", sum := "aff338df2cdd20fcd1784d0ce7829784da80476d65ccae59504def00b5a30683", func := "bodkin/bodkinlaw07.ScalarFloats", spec := "scalarFloats", inPlace := ["internal/bytealg.IndexByteString", "internal/bytealg.IndexString", "math.Float32frombits", "math.Float64frombits", "math.archTrunc", "math.Float64bits", "math.Float32bits", "math.sqrt", "math.archCeil", "math.archFloor", "math.RoundToEven"], unfollowed := true, recurses := true, named := ["bodkin/ops.laneCounts", "bodkin/ops.plainAligns", "bodkin/ops.vectorAligns", "bodkin/ops.laneAligns", "bodkin/ops.lists", "internal/bytealg.MaxLen", "bodkin/scalar.floatUnaries"], apart := false, laid := [("bodkin/ops.plainAligns", laid_bodkin_ops_plainAligns), ("bodkin/ops.vectorAligns", laid_bodkin_ops_vectorAligns), ("bodkin/ops.laneAligns", laid_bodkin_ops_laneAligns), ("bodkin/ops.laneCounts", laid_bodkin_ops_laneCounts), ("bodkin/ops.lists", laid_bodkin_ops_lists), ("bodkin/scalar.floatUnaries", laid_bodkin_scalar_floatUnaries)], narrowed := true }
def ScalarFloatsUptoSaid : Prop := scalarFloatsUptoRow.holds Tryz.pinned (OpenSpec.upto scalarFloatsSpec)

/-- 'bodkinlaw07.ScalarHeld', WHERE WHAT IT READS IS OF BULK AT MOST 1048576: true; the input reads as it did. -/
def scalarHeldUptoRow : OpenClaim := { program := "ytlhakbkdlgejpaagreatdoor", sum := "aff338df2cdd20fcd1784d0ce7829784da80476d65ccae59504def00b5a30683", func := "bodkin/bodkinlaw07.ScalarHeld", spec := "scalarHeld", inPlace := ["internal/bytealg.IndexByteString", "internal/bytealg.IndexString", "math.Float32frombits", "math.Float64frombits", "math.archTrunc", "math.Float64bits", "math.Float32bits", "math.sqrt", "math.archCeil", "math.archFloor", "math.RoundToEven"], unfollowed := true, recurses := true, named := ["bodkin/ops.laneCounts", "bodkin/ops.plainAligns", "bodkin/ops.vectorAligns", "bodkin/ops.laneAligns", "bodkin/ops.lists", "internal/bytealg.MaxLen", "bodkin/scalar.floatUnaries"], apart := false, laid := [("bodkin/ops.plainAligns", laid_bodkin_ops_plainAligns), ("bodkin/ops.vectorAligns", laid_bodkin_ops_vectorAligns), ("bodkin/ops.laneAligns", laid_bodkin_ops_laneAligns), ("bodkin/ops.laneCounts", laid_bodkin_ops_laneCounts), ("bodkin/ops.lists", laid_bodkin_ops_lists), ("bodkin/scalar.floatUnaries", laid_bodkin_scalar_floatUnaries)], narrowed := true }
def ScalarHeldUptoSaid : Prop := scalarHeldUptoRow.holds Tryz.pinned (OpenSpec.upto scalarHeldSpec)

end Rows
end Go.Proofs.YtlhakbkdlgejpaaGreatDoor
