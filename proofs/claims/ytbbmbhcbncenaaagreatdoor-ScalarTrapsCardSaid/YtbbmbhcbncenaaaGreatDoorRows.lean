/-
  NARROWER THAN 'FOR EVERY INPUT', by the rows' own cells (each row's printed sentence says how): ScalarTraps: laid.
  DERIVED. THE GIVEN ROWS OF THIS SEAT. 1 by the template 'for every input the law returns true; each argument reads behind the call as it read before'; 0 by the template 'total and deterministic' (their statements: YtbbmbhcbncenaaaGreatDoorTotals.lean).
  GIVEN WITH THE SEED: the statements are not yours to turn. If you find one false, say at which input.
  Laid BY PROGRAM, IN A SANDBOX (cutbox-rows.mjs): the forced cells as the released guide's own fill.sh prints them over the translation e25e6886f7c6cf58… (all of the seat's roots in one cut). By AI agents, Wed Nov 11 2026. No macro, syntax, notation, axiom, sorry.
-/
import Derived.Test.YtbbmbhcbncenaaaGreatDoorChecked
import GoSem.Claim
import GoSem.ClaimJoined
import GoSem.ClaimMapViews
import Derived.JoinedTies
import Derived.KernelRfl
namespace Go.Proofs.YtbbmbhcbncenaaaGreatDoor
/- THE CELL 'sum', in the pinned program and in every row, IS THE sha256 OF THE DUMP (.gsa) THAT YtbbmbhcbncenaaaGreatDoorProg.lean LOADS. Nothing in Lean hashes anything: it is a label: what it is worth is what the hold of that sum in a sandbox is worth. -/
noncomputable def Tryz.pinned : Pinned := { name := "ytbbmbhcbncenaaagreatdoor", sum := "e25e6886f7c6cf588a3fff54b0a1c9534c5483f2b1a13197f97e36947b215d46", checked := Tryz.checked }
namespace Rows
def none {H : Type} : Left H := { results := [], args := [] }

/- WHAT THE LISTED PACKAGE-LEVEL VARIABLES READ AS WHEN THE CALL BEGINS. Each datum BY PROGRAM (the guide's laid-datum.mjs) off the statement by which the dump's own 'gosem.cut.vars' lays the variable. In a bare row this is a premise. The card (YtbbmbhcbncenaaaGreatDoorCards.lean) ties it to the program's text. -/
def laid_bodkin_ops_plainAligns {H : Type} : DataW H := .agg [.lit (.int .i64 2), .lit (.int .i64 3), .lit (.int .i64 2), .lit (.int .i64 3), .lit (.int .i64 0), .lit (.int .i64 0), .lit (.int .i64 1), .lit (.int .i64 1), .lit (.int .i64 0), .lit (.int .i64 0), .lit (.int .i64 1), .lit (.int .i64 1), .lit (.int .i64 2), .lit (.int .i64 2), .lit (.int .i64 2), .lit (.int .i64 3), .lit (.int .i64 2), .lit (.int .i64 3), .lit (.int .i64 0), .lit (.int .i64 1), .lit (.int .i64 0), .lit (.int .i64 1), .lit (.int .i64 2)]
def laid_bodkin_ops_vectorAligns {H : Type} : DataW H := .agg [.lit (.int .i64 4), .lit (.int .i64 3), .lit (.int .i64 3), .lit (.int .i64 3), .lit (.int .i64 3), .lit (.int .i64 3), .lit (.int .i64 3), .lit (.int .i64 0), .lit (.int .i64 1), .lit (.int .i64 2), .lit (.int .i64 3), .lit (.int .i64 4)]
def laid_bodkin_ops_laneAligns {H : Type} : DataW H := .agg [.lit (.int .i64 0), .lit (.int .i64 1), .lit (.int .i64 2), .lit (.int .i64 3), .lit (.int .i64 0), .lit (.int .i64 1), .lit (.int .i64 2), .lit (.int .i64 3), .lit (.int .i64 2), .lit (.int .i64 3)]
def laid_bodkin_ops_laneCounts {H : Type} : DataW H := .agg [.lit (.int .i64 16), .lit (.int .i64 16), .lit (.int .i64 16), .lit (.int .i64 8), .lit (.int .i64 8), .lit (.int .i64 8), .lit (.int .i64 4), .lit (.int .i64 4), .lit (.int .i64 2), .lit (.int .i64 2), .lit (.int .i64 4), .lit (.int .i64 4), .lit (.int .i64 2), .lit (.int .i64 2)]
def laid_bodkin_ops_lists {H : Type} : DataW H := .agg [.agg [.lit (.int .i64 0), .lit (.int .i64 0), .lit (.int .i64 0)], .agg [.lit (.int .i64 0), .lit (.int .i64 0), .lit (.int .i64 0)], .agg [.lit (.int .i64 127), .lit (.int .i64 0), .lit (.int .i64 0)], .agg [.lit (.int .i64 126), .lit (.int .i64 0), .lit (.int .i64 0)], .agg [.lit (.int .i64 125), .lit (.int .i64 0), .lit (.int .i64 0)], .agg [.lit (.int .i64 124), .lit (.int .i64 0), .lit (.int .i64 0)], .agg [.lit (.int .i64 123), .lit (.int .i64 0), .lit (.int .i64 0)], .agg [.lit (.int .i64 112), .lit (.int .i64 0), .lit (.int .i64 0)], .agg [.lit (.int .i64 127), .lit (.int .i64 127), .lit (.int .i64 0)], .agg [.lit (.int .i64 127), .lit (.int .i64 126), .lit (.int .i64 0)], .agg [.lit (.int .i64 127), .lit (.int .i64 125), .lit (.int .i64 0)], .agg [.lit (.int .i64 127), .lit (.int .i64 124), .lit (.int .i64 0)], .agg [.lit (.int .i64 127), .lit (.int .i64 123), .lit (.int .i64 0)], .agg [.lit (.int .i64 126), .lit (.int .i64 126), .lit (.int .i64 0)], .agg [.lit (.int .i64 125), .lit (.int .i64 125), .lit (.int .i64 0)], .agg [.lit (.int .i64 124), .lit (.int .i64 124), .lit (.int .i64 0)], .agg [.lit (.int .i64 123), .lit (.int .i64 127), .lit (.int .i64 0)], .agg [.lit (.int .i64 123), .lit (.int .i64 126), .lit (.int .i64 0)], .agg [.lit (.int .i64 123), .lit (.int .i64 125), .lit (.int .i64 0)], .agg [.lit (.int .i64 123), .lit (.int .i64 124), .lit (.int .i64 0)], .agg [.lit (.int .i64 123), .lit (.int .i64 123), .lit (.int .i64 0)], .agg [.lit (.int .i64 127), .lit (.int .i64 127), .lit (.int .i64 127)], .agg [.lit (.int .i64 123), .lit (.int .i64 123), .lit (.int .i64 123)]]
def laid_bodkin_scalar_floatUnaries {H : Type} : DataW H := .agg [.lit (.int .i64 1), .lit (.int .i64 2), .lit (.int .i64 4), .lit (.int .i64 5), .lit (.int .i64 6), .lit (.int .i64 7), .lit (.int .i64 3)]

/-- 'bodkinlaw07.ScalarTraps': WHATEVER THE INPUT: true; the input reads as it did. -/
def scalarTrapsSpec : ChangeSpec := { name := "scalarTraps", fn := fun _ => fun
  | [d1, d2, d3] => { results := [.lit (.bool true)], args := [d1, d2, d3] }
  | _ => none }
def scalarTrapsRow : OpenClaim := { program := "ytbbmbhcbncenaaagreatdoor", sum := "e25e6886f7c6cf588a3fff54b0a1c9534c5483f2b1a13197f97e36947b215d46", func := "bodkin/bodkinlaw07.ScalarTraps", spec := "scalarTraps", inPlace := ["internal/bytealg.IndexByteString", "internal/bytealg.IndexString"], unfollowed := true, recurses := true, named := ["bodkin/ops.laneCounts", "bodkin/ops.plainAligns", "bodkin/ops.vectorAligns", "bodkin/ops.laneAligns", "bodkin/ops.lists", "internal/bytealg.MaxLen", "bodkin/scalar.floatUnaries"], apart := false, laid := [("bodkin/ops.plainAligns", laid_bodkin_ops_plainAligns), ("bodkin/ops.vectorAligns", laid_bodkin_ops_vectorAligns), ("bodkin/ops.laneAligns", laid_bodkin_ops_laneAligns), ("bodkin/ops.laneCounts", laid_bodkin_ops_laneCounts), ("bodkin/ops.lists", laid_bodkin_ops_lists), ("bodkin/scalar.floatUnaries", laid_bodkin_scalar_floatUnaries)] }
def ScalarTrapsSaid : Prop := scalarTrapsRow.holds Tryz.pinned (OpenSpec.ofChange scalarTrapsSpec)

/-- ITS FALSE NEIGHBOUR: 'it returns false'. Refute it at one input. -/
def scalarTrapsWrong : ChangeSpec := { name := "scalarTraps", fn := fun _ => fun
  | [d1, d2, d3] => { results := [.lit (.bool false)], args := [d1, d2, d3] }
  | _ => none }
def ScalarTrapsWrongFalsely : Prop := scalarTrapsRow.holds Tryz.pinned (OpenSpec.ofChange scalarTrapsWrong)

/- THE SECOND FORM. 'bulk': how many values and letters a reading holds, each counted each time it is reached (what is shared counts as often as it is met; a slice's spare places count too). A statement '..UptoSaid' is the law's where the arguments, and the package variables that the reading takes, are together of bulk at most 1048576: NARROWER than '..Said'. Prove '..Said' where nothing that the law and all that it calls make is longer than what came in: it says more and counts as full. Else prove '..UptoSaid'. A law counts once. -/
mutual
def uptoBulk {H : Type} : DataW H → Nat
  | .lit (.string bytes) => bytes.length + 1
  | .lit _ => 1
  | .nil => 1
  | .ptr d => uptoBulk d + 1
  | .slice elems spare => uptoBulkAll elems + uptoBulkAll spare + 1
  | .agg parts => uptoBulkAll parts + 1
  | .iface _ d => uptoBulk d + 1
  | .map entries => uptoBulkEntries entries + 1
  | .held _ => 1
def uptoBulkAll {H : Type} : List (DataW H) → Nat
  | [] => 0
  | d :: r => uptoBulk d + uptoBulkAll r
def uptoBulkEntries {H : Type} : List (Lit × DataW H) → Nat
  | [] => 0
  | x :: r => uptoBulkEntry x + uptoBulkEntries r
def uptoBulkEntry {H : Type} : Lit × DataW H → Nat
  | (.string bytes, d) => bytes.length + uptoBulk d + 1
  | (_, d) => uptoBulk d + 1
 end
def uptoSmall : (H : Type) → List (DataW H) → Bool := fun _ ds => decide (uptoBulkAll ds ≤ 1048576)
def OpenSpec.upto (s : _root_.Go.ChangeSpec) : _root_.Go.OpenSpec := { _root_.Go.OpenSpec.ofChange s with cond := some uptoSmall }

/-- 'bodkinlaw07.ScalarTraps', WHERE WHAT IT READS IS OF BULK AT MOST 1048576: true; the input reads as it did. -/
def scalarTrapsUptoRow : OpenClaim := { program := "ytbbmbhcbncenaaagreatdoor", sum := "e25e6886f7c6cf588a3fff54b0a1c9534c5483f2b1a13197f97e36947b215d46", func := "bodkin/bodkinlaw07.ScalarTraps", spec := "scalarTraps", inPlace := ["internal/bytealg.IndexByteString", "internal/bytealg.IndexString"], unfollowed := true, recurses := true, named := ["bodkin/ops.laneCounts", "bodkin/ops.plainAligns", "bodkin/ops.vectorAligns", "bodkin/ops.laneAligns", "bodkin/ops.lists", "internal/bytealg.MaxLen", "bodkin/scalar.floatUnaries"], apart := false, laid := [("bodkin/ops.plainAligns", laid_bodkin_ops_plainAligns), ("bodkin/ops.vectorAligns", laid_bodkin_ops_vectorAligns), ("bodkin/ops.laneAligns", laid_bodkin_ops_laneAligns), ("bodkin/ops.laneCounts", laid_bodkin_ops_laneCounts), ("bodkin/ops.lists", laid_bodkin_ops_lists), ("bodkin/scalar.floatUnaries", laid_bodkin_scalar_floatUnaries)], narrowed := true }
def ScalarTrapsUptoSaid : Prop := scalarTrapsUptoRow.holds Tryz.pinned (OpenSpec.upto scalarTrapsSpec)

end Rows
end Go.Proofs.YtbbmbhcbncenaaaGreatDoor
