/-
  NARROWER THAN 'FOR EVERY INPUT', by the rows' own cells (each row's printed sentence says how): ShapeMay: loops · ShapeOne: loops · ShapeNest: loops · ShapeSame: loops · ShapeOwn: loops.
  DERIVED. THE GIVEN ROWS OF THIS SEAT. 6 by the template 'for every input the law returns true; each argument reads behind the call as it read before'; 0 by the template 'total and deterministic' (their statements: YteianbgampljeaaGreatTotals.lean).
  GIVEN WITH THE SEED: the statements are not yours to turn. If you find one false, say at which input.
  Laid BY PROGRAM, IN A SANDBOX (cutbox-rows.mjs): the forced cells as the released guide's own fill.sh prints them over the translation 1418430d1621cc49… (all of the seat's roots in one cut). By AI agents, Wed Nov 11 2026. No macro, syntax, notation, axiom, sorry.
-/
import Derived.Test.YteianbgampljeaaGreatChecked
import GoSem.Claim
import GoSem.ClaimJoined
import GoSem.ClaimMapViews
import Derived.JoinedTies
import Derived.KernelRfl
namespace Go.Proofs.YteianbgampljeaaGreat
/- THE CELL 'sum', in the pinned program and in every row, IS THE sha256 OF THE DUMP (.gsa) THAT YteianbgampljeaaGreatProg.lean LOADS. Nothing in Lean hashes anything: it is a label: what it is worth is what the hold of that sum in a sandbox is worth. -/
noncomputable def Tryz.pinned : Pinned := { name := "yteianbgampljeaagreat", sum := "1418430d1621cc49937827ea178c8202058068015a95f4c82a02c6216aeef97e", checked := Tryz.checked }
namespace Rows
def none {H : Type} : Left H := { results := [], args := [] }

/-- 'bodkinlaw09.ShapeMay': WHATEVER THE INPUT: true; the input reads as it did. -/
def shapeMaySpec : ChangeSpec := { name := "shapeMay", fn := fun _ => fun
  | [d] => { results := [.lit (.bool true)], args := [d] }
  | _ => none }
def shapeMayRow : OpenClaim := { program := "yteianbgampljeaagreat", sum := "1418430d1621cc49937827ea178c8202058068015a95f4c82a02c6216aeef97e", func := "bodkin/bodkinlaw09.ShapeMay", spec := "shapeMay", unfollowed := true, recurses := true, loops := true, apart := false }
def ShapeMaySaid : Prop := shapeMayRow.holds Tryz.pinned (OpenSpec.ofChange shapeMaySpec)

/-- ITS FALSE NEIGHBOUR: 'it returns false'. Refute it at one input. -/
def shapeMayWrong : ChangeSpec := { name := "shapeMay", fn := fun _ => fun
  | [d] => { results := [.lit (.bool false)], args := [d] }
  | _ => none }
def ShapeMayWrongFalsely : Prop := shapeMayRow.holds Tryz.pinned (OpenSpec.ofChange shapeMayWrong)

/-- 'bodkinlaw09.ShapeOne': WHATEVER THE INPUT: true; the input reads as it did. -/
def shapeOneSpec : ChangeSpec := { name := "shapeOne", fn := fun _ => fun
  | [d1, d2] => { results := [.lit (.bool true)], args := [d1, d2] }
  | _ => none }
def shapeOneRow : OpenClaim := { program := "yteianbgampljeaagreat", sum := "1418430d1621cc49937827ea178c8202058068015a95f4c82a02c6216aeef97e", func := "bodkin/bodkinlaw09.ShapeOne", spec := "shapeOne", unfollowed := true, recurses := true, loops := true, apart := false }
def ShapeOneSaid : Prop := shapeOneRow.holds Tryz.pinned (OpenSpec.ofChange shapeOneSpec)

/-- ITS FALSE NEIGHBOUR: 'it returns false'. Refute it at one input. -/
def shapeOneWrong : ChangeSpec := { name := "shapeOne", fn := fun _ => fun
  | [d1, d2] => { results := [.lit (.bool false)], args := [d1, d2] }
  | _ => none }
def ShapeOneWrongFalsely : Prop := shapeOneRow.holds Tryz.pinned (OpenSpec.ofChange shapeOneWrong)

/-- 'bodkinlaw09.ShapeNest': WHATEVER THE INPUT: true; the input reads as it did. -/
def shapeNestSpec : ChangeSpec := { name := "shapeNest", fn := fun _ => fun
  | [d1, d2] => { results := [.lit (.bool true)], args := [d1, d2] }
  | _ => none }
def shapeNestRow : OpenClaim := { program := "yteianbgampljeaagreat", sum := "1418430d1621cc49937827ea178c8202058068015a95f4c82a02c6216aeef97e", func := "bodkin/bodkinlaw09.ShapeNest", spec := "shapeNest", unfollowed := true, recurses := true, loops := true, apart := false }
def ShapeNestSaid : Prop := shapeNestRow.holds Tryz.pinned (OpenSpec.ofChange shapeNestSpec)

/-- ITS FALSE NEIGHBOUR: 'it returns false'. Refute it at one input. -/
def shapeNestWrong : ChangeSpec := { name := "shapeNest", fn := fun _ => fun
  | [d1, d2] => { results := [.lit (.bool false)], args := [d1, d2] }
  | _ => none }
def ShapeNestWrongFalsely : Prop := shapeNestRow.holds Tryz.pinned (OpenSpec.ofChange shapeNestWrong)

/-- 'bodkinlaw09.ShapeSame': WHATEVER THE INPUT: true; the input reads as it did. -/
def shapeSameSpec : ChangeSpec := { name := "shapeSame", fn := fun _ => fun
  | [d1, d2] => { results := [.lit (.bool true)], args := [d1, d2] }
  | _ => none }
def shapeSameRow : OpenClaim := { program := "yteianbgampljeaagreat", sum := "1418430d1621cc49937827ea178c8202058068015a95f4c82a02c6216aeef97e", func := "bodkin/bodkinlaw09.ShapeSame", spec := "shapeSame", unfollowed := true, recurses := true, loops := true, apart := false }
def ShapeSameSaid : Prop := shapeSameRow.holds Tryz.pinned (OpenSpec.ofChange shapeSameSpec)

/-- ITS FALSE NEIGHBOUR: 'it returns false'. Refute it at one input. -/
def shapeSameWrong : ChangeSpec := { name := "shapeSame", fn := fun _ => fun
  | [d1, d2] => { results := [.lit (.bool false)], args := [d1, d2] }
  | _ => none }
def ShapeSameWrongFalsely : Prop := shapeSameRow.holds Tryz.pinned (OpenSpec.ofChange shapeSameWrong)

/-- 'bodkinlaw09.ShapeOwn': WHATEVER THE INPUT: true; the input reads as it did. -/
def shapeOwnSpec : ChangeSpec := { name := "shapeOwn", fn := fun _ => fun
  | [d] => { results := [.lit (.bool true)], args := [d] }
  | _ => none }
def shapeOwnRow : OpenClaim := { program := "yteianbgampljeaagreat", sum := "1418430d1621cc49937827ea178c8202058068015a95f4c82a02c6216aeef97e", func := "bodkin/bodkinlaw09.ShapeOwn", spec := "shapeOwn", unfollowed := true, recurses := true, loops := true, apart := false }
def ShapeOwnSaid : Prop := shapeOwnRow.holds Tryz.pinned (OpenSpec.ofChange shapeOwnSpec)

/-- ITS FALSE NEIGHBOUR: 'it returns false'. Refute it at one input. -/
def shapeOwnWrong : ChangeSpec := { name := "shapeOwn", fn := fun _ => fun
  | [d] => { results := [.lit (.bool false)], args := [d] }
  | _ => none }
def ShapeOwnWrongFalsely : Prop := shapeOwnRow.holds Tryz.pinned (OpenSpec.ofChange shapeOwnWrong)

/-- 'bodkinlaw09.ShapeInside': WHATEVER THE INPUT: true; the input reads as it did. -/
def shapeInsideSpec : ChangeSpec := { name := "shapeInside", fn := fun _ => fun
  | [d1, d2, d3] => { results := [.lit (.bool true)], args := [d1, d2, d3] }
  | _ => none }
def shapeInsideRow : OpenClaim := { program := "yteianbgampljeaagreat", sum := "1418430d1621cc49937827ea178c8202058068015a95f4c82a02c6216aeef97e", func := "bodkin/bodkinlaw09.ShapeInside", spec := "shapeInside", unfollowed := true, recurses := true, apart := false }
def ShapeInsideSaid : Prop := shapeInsideRow.holds Tryz.pinned (OpenSpec.ofChange shapeInsideSpec)

/-- ITS FALSE NEIGHBOUR: 'it returns false'. Refute it at one input. -/
def shapeInsideWrong : ChangeSpec := { name := "shapeInside", fn := fun _ => fun
  | [d1, d2, d3] => { results := [.lit (.bool false)], args := [d1, d2, d3] }
  | _ => none }
def ShapeInsideWrongFalsely : Prop := shapeInsideRow.holds Tryz.pinned (OpenSpec.ofChange shapeInsideWrong)

/- THE SECOND FORM. 'bulk': how many values and letters a reading holds, each counted each time it is reached (what is shared counts as often as it is met; a slice's spare places count too). A statement '..UptoSaid' is the law's where the arguments, and the package variables that the reading takes, are together of bulk at most 1048576: NARROWER than '..Said'. Prove '..Said' where nothing that the law and all that it calls make is longer than what came in: it says more and counts as full. Else prove '..UptoSaid'. A law counts once. -/
mutual
def uptoBulk {H : Type} : DataW H → Nat
  | .lit (.string bytes) => bytes.length + 1
  | .lit _ => 1
  | .nil => 1
  | .ptr d => uptoBulk d + 1
  | .slice elems spare => uptoBulkAll elems + uptoBulkAll spare + 1
  | .agg parts => uptoBulkAll parts + 1
  | .iface _ d => uptoBulk d + 1
  | .map entries => uptoBulkEntries entries + 1
  | .held _ => 1
def uptoBulkAll {H : Type} : List (DataW H) → Nat
  | [] => 0
  | d :: r => uptoBulk d + uptoBulkAll r
def uptoBulkEntries {H : Type} : List (Lit × DataW H) → Nat
  | [] => 0
  | x :: r => uptoBulkEntry x + uptoBulkEntries r
def uptoBulkEntry {H : Type} : Lit × DataW H → Nat
  | (.string bytes, d) => bytes.length + uptoBulk d + 1
  | (_, d) => uptoBulk d + 1
 end
def uptoSmall : (H : Type) → List (DataW H) → Bool := fun _ ds => decide (uptoBulkAll ds ≤ 1048576)
def OpenSpec.upto (s : _root_.Go.ChangeSpec) : _root_.Go.OpenSpec := { _root_.Go.OpenSpec.ofChange s with cond := some uptoSmall }

/-- 'bodkinlaw09.ShapeMay', WHERE WHAT IT READS IS OF BULK AT MOST 1048576: true; the input reads as it did. -/
def shapeMayUptoRow : OpenClaim := { program := "yteianbgampljeaagreat", sum := "1418430d1621cc49937827ea178c8202058068015a95f4c82a02c6216aeef97e", func := "bodkin/bodkinlaw09.ShapeMay", spec := "shapeMay", unfollowed := true, recurses := true, loops := true, apart := false, narrowed := true }
def ShapeMayUptoSaid : Prop := shapeMayUptoRow.holds Tryz.pinned (OpenSpec.upto shapeMaySpec)

/-- 'bodkinlaw09.ShapeOne', WHERE WHAT IT READS IS OF BULK AT MOST 1048576: true; the input reads as it did. -/
def shapeOneUptoRow : OpenClaim := { program := "yteianbgampljeaagreat", sum := "1418430d1621cc49937827ea178c8202058068015a95f4c82a02c6216aeef97e", func := "bodkin/bodkinlaw09.ShapeOne", spec := "shapeOne", unfollowed := true, recurses := true, loops := true, apart := false, narrowed := true }
def ShapeOneUptoSaid : Prop := shapeOneUptoRow.holds Tryz.pinned (OpenSpec.upto shapeOneSpec)

/-- 'bodkinlaw09.ShapeNest', WHERE WHAT IT READS IS OF BULK AT MOST 1048576: true; the input reads as it did. -/
def shapeNestUptoRow : OpenClaim := { program := "yteianbgampljeaagreat", sum := "1418430d1621cc49937827ea178c8202058068015a95f4c82a02c6216aeef97e", func := "bodkin/bodkinlaw09.ShapeNest", spec := "shapeNest", unfollowed := true, recurses := true, loops := true, apart := false, narrowed := true }
def ShapeNestUptoSaid : Prop := shapeNestUptoRow.holds Tryz.pinned (OpenSpec.upto shapeNestSpec)

/-- 'bodkinlaw09.ShapeSame', WHERE WHAT IT READS IS OF BULK AT MOST 1048576: true; the input reads as it did. -/
def shapeSameUptoRow : OpenClaim := { program := "yteianbgampljeaagreat", sum := "1418430d1621cc49937827ea178c8202058068015a95f4c82a02c6216aeef97e", func := "bodkin/bodkinlaw09.ShapeSame", spec := "shapeSame", unfollowed := true, recurses := true, loops := true, apart := false, narrowed := true }
def ShapeSameUptoSaid : Prop := shapeSameUptoRow.holds Tryz.pinned (OpenSpec.upto shapeSameSpec)

/-- 'bodkinlaw09.ShapeOwn', WHERE WHAT IT READS IS OF BULK AT MOST 1048576: true; the input reads as it did. -/
def shapeOwnUptoRow : OpenClaim := { program := "yteianbgampljeaagreat", sum := "1418430d1621cc49937827ea178c8202058068015a95f4c82a02c6216aeef97e", func := "bodkin/bodkinlaw09.ShapeOwn", spec := "shapeOwn", unfollowed := true, recurses := true, loops := true, apart := false, narrowed := true }
def ShapeOwnUptoSaid : Prop := shapeOwnUptoRow.holds Tryz.pinned (OpenSpec.upto shapeOwnSpec)

/-- 'bodkinlaw09.ShapeInside', WHERE WHAT IT READS IS OF BULK AT MOST 1048576: true; the input reads as it did. -/
def shapeInsideUptoRow : OpenClaim := { program := "yteianbgampljeaagreat", sum := "1418430d1621cc49937827ea178c8202058068015a95f4c82a02c6216aeef97e", func := "bodkin/bodkinlaw09.ShapeInside", spec := "shapeInside", unfollowed := true, recurses := true, apart := false, narrowed := true }
def ShapeInsideUptoSaid : Prop := shapeInsideUptoRow.holds Tryz.pinned (OpenSpec.upto shapeInsideSpec)

end Rows
end Go.Proofs.YteianbgampljeaaGreat
