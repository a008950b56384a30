/-
  NARROWER THAN 'FOR EVERY INPUT', by the rows' own cells (each row's printed sentence says how): ShapeMay: loops · ShapeOne: loops · ShapeSame: loops · ShapeOwn: loops · EncodeModule: loops · EncodeCode: loops · EncodeApart: loops · EncodeInstr: loops · EncodeParts: loops.
  DERIVED. THE GIVEN ROWS OF THIS SEAT. 10 by the template 'for every input the law returns true; each argument reads behind the call as it read before'; 0 by the template 'total and deterministic' (their statements: YtjgeedgphcjhoaaGreatTotals.lean).
  GIVEN WITH THE SEED: the statements are not yours to turn. If you find one false, say at which input.
  Laid BY PROGRAM, IN A SANDBOX (cutbox-rows.mjs): the forced cells as the released guide's own fill.sh prints them over the translation 10a4569b18e0a0cf… (all of the seat's roots in one cut). By AI agents, Wed Nov 11 2026. No macro, syntax, notation, axiom, sorry.
-/
import Derived.Test.YtjgeedgphcjhoaaGreatChecked
import GoSem.Claim
import GoSem.ClaimJoined
import GoSem.ClaimMapViews
import Derived.JoinedTies
import Derived.KernelRfl
namespace Go.Proofs.YtjgeedgphcjhoaaGreat
/- THE CELL 'sum', in the pinned program and in every row, IS THE sha256 OF THE DUMP (.gsa) THAT YtjgeedgphcjhoaaGreatProg.lean LOADS. Nothing in Lean hashes anything: it is a label: what it is worth is what the hold of that sum in a sandbox is worth. -/
noncomputable def Tryz.pinned : Pinned := { name := "ytjgeedgphcjhoaagreat", sum := "10a4569b18e0a0cf4e677ecf4a73d0b69772b3d332fb7dcae18dec4a7f1f63ce", checked := Tryz.checked }
namespace Rows
def none {H : Type} : Left H := { results := [], args := [] }

/-- 'bodkinlaw09.ShapeMay': WHATEVER THE INPUT: true; the input reads as it did. -/
def shapeMaySpec : ChangeSpec := { name := "shapeMay", fn := fun _ => fun
  | [d] => { results := [.lit (.bool true)], args := [d] }
  | _ => none }
def shapeMayRow : OpenClaim := { program := "ytjgeedgphcjhoaagreat", sum := "10a4569b18e0a0cf4e677ecf4a73d0b69772b3d332fb7dcae18dec4a7f1f63ce", func := "bodkin/bodkinlaw09.ShapeMay", spec := "shapeMay", unfollowed := true, recurses := true, loops := true, apart := false }
def ShapeMaySaid : Prop := shapeMayRow.holds Tryz.pinned (OpenSpec.ofChange shapeMaySpec)

/-- ITS FALSE NEIGHBOUR: 'it returns false'. Refute it at one input. -/
def shapeMayWrong : ChangeSpec := { name := "shapeMay", fn := fun _ => fun
  | [d] => { results := [.lit (.bool false)], args := [d] }
  | _ => none }
def ShapeMayWrongFalsely : Prop := shapeMayRow.holds Tryz.pinned (OpenSpec.ofChange shapeMayWrong)

/-- 'bodkinlaw09.ShapeOne': WHATEVER THE INPUT: true; the input reads as it did. -/
def shapeOneSpec : ChangeSpec := { name := "shapeOne", fn := fun _ => fun
  | [d1, d2] => { results := [.lit (.bool true)], args := [d1, d2] }
  | _ => none }
def shapeOneRow : OpenClaim := { program := "ytjgeedgphcjhoaagreat", sum := "10a4569b18e0a0cf4e677ecf4a73d0b69772b3d332fb7dcae18dec4a7f1f63ce", func := "bodkin/bodkinlaw09.ShapeOne", spec := "shapeOne", unfollowed := true, recurses := true, loops := true, apart := false }
def ShapeOneSaid : Prop := shapeOneRow.holds Tryz.pinned (OpenSpec.ofChange shapeOneSpec)

/-- ITS FALSE NEIGHBOUR: 'it returns false'. Refute it at one input. -/
def shapeOneWrong : ChangeSpec := { name := "shapeOne", fn := fun _ => fun
  | [d1, d2] => { results := [.lit (.bool false)], args := [d1, d2] }
  | _ => none }
def ShapeOneWrongFalsely : Prop := shapeOneRow.holds Tryz.pinned (OpenSpec.ofChange shapeOneWrong)

/-- 'bodkinlaw09.ShapeSame': WHATEVER THE INPUT: true; the input reads as it did. -/
def shapeSameSpec : ChangeSpec := { name := "shapeSame", fn := fun _ => fun
  | [d1, d2] => { results := [.lit (.bool true)], args := [d1, d2] }
  | _ => none }
def shapeSameRow : OpenClaim := { program := "ytjgeedgphcjhoaagreat", sum := "10a4569b18e0a0cf4e677ecf4a73d0b69772b3d332fb7dcae18dec4a7f1f63ce", func := "bodkin/bodkinlaw09.ShapeSame", spec := "shapeSame", unfollowed := true, recurses := true, loops := true, apart := false }
def ShapeSameSaid : Prop := shapeSameRow.holds Tryz.pinned (OpenSpec.ofChange shapeSameSpec)

/-- ITS FALSE NEIGHBOUR: 'it returns false'. Refute it at one input. -/
def shapeSameWrong : ChangeSpec := { name := "shapeSame", fn := fun _ => fun
  | [d1, d2] => { results := [.lit (.bool false)], args := [d1, d2] }
  | _ => none }
def ShapeSameWrongFalsely : Prop := shapeSameRow.holds Tryz.pinned (OpenSpec.ofChange shapeSameWrong)

/-- 'bodkinlaw09.ShapeOwn': WHATEVER THE INPUT: true; the input reads as it did. -/
def shapeOwnSpec : ChangeSpec := { name := "shapeOwn", fn := fun _ => fun
  | [d] => { results := [.lit (.bool true)], args := [d] }
  | _ => none }
def shapeOwnRow : OpenClaim := { program := "ytjgeedgphcjhoaagreat", sum := "10a4569b18e0a0cf4e677ecf4a73d0b69772b3d332fb7dcae18dec4a7f1f63ce", func := "bodkin/bodkinlaw09.ShapeOwn", spec := "shapeOwn", unfollowed := true, recurses := true, loops := true, apart := false }
def ShapeOwnSaid : Prop := shapeOwnRow.holds Tryz.pinned (OpenSpec.ofChange shapeOwnSpec)

/-- ITS FALSE NEIGHBOUR: 'it returns false'. Refute it at one input. -/
def shapeOwnWrong : ChangeSpec := { name := "shapeOwn", fn := fun _ => fun
  | [d] => { results := [.lit (.bool false)], args := [d] }
  | _ => none }
def ShapeOwnWrongFalsely : Prop := shapeOwnRow.holds Tryz.pinned (OpenSpec.ofChange shapeOwnWrong)

/-- 'bodkinlaw10.EncodeModule': WHATEVER THE INPUT: true; the input reads as it did. -/
def encodeModuleSpec : ChangeSpec := { name := "encodeModule", fn := fun _ => fun
  | [d] => { results := [.lit (.bool true)], args := [d] }
  | _ => none }
def encodeModuleRow : OpenClaim := { program := "ytjgeedgphcjhoaagreat", sum := "10a4569b18e0a0cf4e677ecf4a73d0b69772b3d332fb7dcae18dec4a7f1f63ce", func := "bodkin/bodkinlaw10.EncodeModule", spec := "encodeModule", unfollowed := true, recurses := true, loops := true, apart := false }
def EncodeModuleSaid : Prop := encodeModuleRow.holds Tryz.pinned (OpenSpec.ofChange encodeModuleSpec)

/-- ITS FALSE NEIGHBOUR: 'it returns false'. Refute it at one input. -/
def encodeModuleWrong : ChangeSpec := { name := "encodeModule", fn := fun _ => fun
  | [d] => { results := [.lit (.bool false)], args := [d] }
  | _ => none }
def EncodeModuleWrongFalsely : Prop := encodeModuleRow.holds Tryz.pinned (OpenSpec.ofChange encodeModuleWrong)

/-- 'bodkinlaw10.EncodeCode': WHATEVER THE INPUT: true; the input reads as it did. -/
def encodeCodeSpec : ChangeSpec := { name := "encodeCode", fn := fun _ => fun
  | [d] => { results := [.lit (.bool true)], args := [d] }
  | _ => none }
def encodeCodeRow : OpenClaim := { program := "ytjgeedgphcjhoaagreat", sum := "10a4569b18e0a0cf4e677ecf4a73d0b69772b3d332fb7dcae18dec4a7f1f63ce", func := "bodkin/bodkinlaw10.EncodeCode", spec := "encodeCode", unfollowed := true, recurses := true, loops := true, apart := false }
def EncodeCodeSaid : Prop := encodeCodeRow.holds Tryz.pinned (OpenSpec.ofChange encodeCodeSpec)

/-- ITS FALSE NEIGHBOUR: 'it returns false'. Refute it at one input. -/
def encodeCodeWrong : ChangeSpec := { name := "encodeCode", fn := fun _ => fun
  | [d] => { results := [.lit (.bool false)], args := [d] }
  | _ => none }
def EncodeCodeWrongFalsely : Prop := encodeCodeRow.holds Tryz.pinned (OpenSpec.ofChange encodeCodeWrong)

/-- 'bodkinlaw10.EncodeApart': WHATEVER THE INPUT: true; the input reads as it did. -/
def encodeApartSpec : ChangeSpec := { name := "encodeApart", fn := fun _ => fun
  | [d1, d2] => { results := [.lit (.bool true)], args := [d1, d2] }
  | _ => none }
def encodeApartRow : OpenClaim := { program := "ytjgeedgphcjhoaagreat", sum := "10a4569b18e0a0cf4e677ecf4a73d0b69772b3d332fb7dcae18dec4a7f1f63ce", func := "bodkin/bodkinlaw10.EncodeApart", spec := "encodeApart", unfollowed := true, recurses := true, loops := true, apart := false }
def EncodeApartSaid : Prop := encodeApartRow.holds Tryz.pinned (OpenSpec.ofChange encodeApartSpec)

/-- ITS FALSE NEIGHBOUR: 'it returns false'. Refute it at one input. -/
def encodeApartWrong : ChangeSpec := { name := "encodeApart", fn := fun _ => fun
  | [d1, d2] => { results := [.lit (.bool false)], args := [d1, d2] }
  | _ => none }
def EncodeApartWrongFalsely : Prop := encodeApartRow.holds Tryz.pinned (OpenSpec.ofChange encodeApartWrong)

/-- 'bodkinlaw10.EncodeDeep': WHATEVER THE INPUT: true; the input reads as it did. -/
def encodeDeepSpec : ChangeSpec := { name := "encodeDeep", fn := fun _ => fun
  | [d1, d2] => { results := [.lit (.bool true)], args := [d1, d2] }
  | _ => none }
def encodeDeepRow : OpenClaim := { program := "ytjgeedgphcjhoaagreat", sum := "10a4569b18e0a0cf4e677ecf4a73d0b69772b3d332fb7dcae18dec4a7f1f63ce", func := "bodkin/bodkinlaw10.EncodeDeep", spec := "encodeDeep", unfollowed := true, recurses := true, apart := false }
def EncodeDeepSaid : Prop := encodeDeepRow.holds Tryz.pinned (OpenSpec.ofChange encodeDeepSpec)

/-- ITS FALSE NEIGHBOUR: 'it returns false'. Refute it at one input. -/
def encodeDeepWrong : ChangeSpec := { name := "encodeDeep", fn := fun _ => fun
  | [d1, d2] => { results := [.lit (.bool false)], args := [d1, d2] }
  | _ => none }
def EncodeDeepWrongFalsely : Prop := encodeDeepRow.holds Tryz.pinned (OpenSpec.ofChange encodeDeepWrong)

/-- 'bodkinlaw10.EncodeInstr': WHATEVER THE INPUT: true; the input reads as it did. -/
def encodeInstrSpec : ChangeSpec := { name := "encodeInstr", fn := fun _ => fun
  | [d] => { results := [.lit (.bool true)], args := [d] }
  | _ => none }
def encodeInstrRow : OpenClaim := { program := "ytjgeedgphcjhoaagreat", sum := "10a4569b18e0a0cf4e677ecf4a73d0b69772b3d332fb7dcae18dec4a7f1f63ce", func := "bodkin/bodkinlaw10.EncodeInstr", spec := "encodeInstr", unfollowed := true, recurses := true, loops := true, apart := false }
def EncodeInstrSaid : Prop := encodeInstrRow.holds Tryz.pinned (OpenSpec.ofChange encodeInstrSpec)

/-- ITS FALSE NEIGHBOUR: 'it returns false'. Refute it at one input. -/
def encodeInstrWrong : ChangeSpec := { name := "encodeInstr", fn := fun _ => fun
  | [d] => { results := [.lit (.bool false)], args := [d] }
  | _ => none }
def EncodeInstrWrongFalsely : Prop := encodeInstrRow.holds Tryz.pinned (OpenSpec.ofChange encodeInstrWrong)

/-- 'bodkinlaw10.EncodeParts': WHATEVER THE INPUT: true; the input reads as it did. -/
def encodePartsSpec : ChangeSpec := { name := "encodeParts", fn := fun _ => fun
  | [d1, d2, d3] => { results := [.lit (.bool true)], args := [d1, d2, d3] }
  | _ => none }
def encodePartsRow : OpenClaim := { program := "ytjgeedgphcjhoaagreat", sum := "10a4569b18e0a0cf4e677ecf4a73d0b69772b3d332fb7dcae18dec4a7f1f63ce", func := "bodkin/bodkinlaw10.EncodeParts", spec := "encodeParts", unfollowed := true, recurses := true, loops := true, apart := false }
def EncodePartsSaid : Prop := encodePartsRow.holds Tryz.pinned (OpenSpec.ofChange encodePartsSpec)

/-- ITS FALSE NEIGHBOUR: 'it returns false'. Refute it at one input. -/
def encodePartsWrong : ChangeSpec := { name := "encodeParts", fn := fun _ => fun
  | [d1, d2, d3] => { results := [.lit (.bool false)], args := [d1, d2, d3] }
  | _ => none }
def EncodePartsWrongFalsely : Prop := encodePartsRow.holds Tryz.pinned (OpenSpec.ofChange encodePartsWrong)

/- THE SECOND FORM. 'bulk': how many values and letters a reading holds, each counted each time it is reached (what is shared counts as often as it is met; a slice's spare places count too). A statement '..UptoSaid' is the law's where the arguments, and the package variables that the reading takes, are together of bulk at most 1048576: NARROWER than '..Said'. Prove '..Said' where nothing that the law and all that it calls make is longer than what came in: it says more and counts as full. Else prove '..UptoSaid'. A law counts once. -/
mutual
def uptoBulk {H : Type} : DataW H → Nat
  | .lit (.string bytes) => bytes.length + 1
  | .lit _ => 1
  | .nil => 1
  | .ptr d => uptoBulk d + 1
  | .slice elems spare => uptoBulkAll elems + uptoBulkAll spare + 1
  | .agg parts => uptoBulkAll parts + 1
  | .iface _ d => uptoBulk d + 1
  | .map entries => uptoBulkEntries entries + 1
  | .held _ => 1
def uptoBulkAll {H : Type} : List (DataW H) → Nat
  | [] => 0
  | d :: r => uptoBulk d + uptoBulkAll r
def uptoBulkEntries {H : Type} : List (Lit × DataW H) → Nat
  | [] => 0
  | x :: r => uptoBulkEntry x + uptoBulkEntries r
def uptoBulkEntry {H : Type} : Lit × DataW H → Nat
  | (.string bytes, d) => bytes.length + uptoBulk d + 1
  | (_, d) => uptoBulk d + 1
 end
def uptoSmall : (H : Type) → List (DataW H) → Bool := fun _ ds => decide (uptoBulkAll ds ≤ 1048576)
def OpenSpec.upto (s : _root_.Go.ChangeSpec) : _root_.Go.OpenSpec := { _root_.Go.OpenSpec.ofChange s with cond := some uptoSmall }

/-- 'bodkinlaw09.ShapeMay', WHERE WHAT IT READS IS OF BULK AT MOST 1048576: true; the input reads as it did. -/
def shapeMayUptoRow : OpenClaim := { program := "ytjgeedgphcjhoaagreat", sum := "10a4569b18e0a0cf4e677ecf4a73d0b69772b3d332fb7dcae18dec4a7f1f63ce", func := "bodkin/bodkinlaw09.ShapeMay", spec := "shapeMay", unfollowed := true, recurses := true, loops := true, apart := false, narrowed := true }
def ShapeMayUptoSaid : Prop := shapeMayUptoRow.holds Tryz.pinned (OpenSpec.upto shapeMaySpec)

/-- 'bodkinlaw09.ShapeOne', WHERE WHAT IT READS IS OF BULK AT MOST 1048576: true; the input reads as it did. -/
def shapeOneUptoRow : OpenClaim := { program := "ytjgeedgphcjhoaagreat", sum := "10a4569b18e0a0cf4e677ecf4a73d0b69772b3d332fb7dcae18dec4a7f1f63ce", func := "bodkin/bodkinlaw09.ShapeOne", spec := "shapeOne", unfollowed := true, recurses := true, loops := true, apart := false, narrowed := true }
def ShapeOneUptoSaid : Prop := shapeOneUptoRow.holds Tryz.pinned (OpenSpec.upto shapeOneSpec)

/-- 'bodkinlaw09.ShapeSame', WHERE WHAT IT READS IS OF BULK AT MOST 1048576: true; the input reads as it did. -/
def shapeSameUptoRow : OpenClaim := { program := "ytjgeedgphcjhoaagreat", sum := "10a4569b18e0a0cf4e677ecf4a73d0b69772b3d332fb7dcae18dec4a7f1f63ce", func := "bodkin/bodkinlaw09.ShapeSame", spec := "shapeSame", unfollowed := true, recurses := true, loops := true, apart := false, narrowed := true }
def ShapeSameUptoSaid : Prop := shapeSameUptoRow.holds Tryz.pinned (OpenSpec.upto shapeSameSpec)

/-- 'bodkinlaw09.ShapeOwn', WHERE WHAT IT READS IS OF BULK AT MOST 1048576: true; the input reads as it did. -/
def shapeOwnUptoRow : OpenClaim := { program := "ytjgeedgphcjhoaagreat", sum := "10a4569b18e0a0cf4e677ecf4a73d0b69772b3d332fb7dcae18dec4a7f1f63ce", func := "bodkin/bodkinlaw09.ShapeOwn", spec := "shapeOwn", unfollowed := true, recurses := true, loops := true, apart := false, narrowed := true }
def ShapeOwnUptoSaid : Prop := shapeOwnUptoRow.holds Tryz.pinned (OpenSpec.upto shapeOwnSpec)

/-- 'bodkinlaw10.EncodeModule', WHERE WHAT IT READS IS OF BULK AT MOST 1048576: true; the input reads as it did. -/
def encodeModuleUptoRow : OpenClaim := { program := "ytjgeedgphcjhoaagreat", sum := "10a4569b18e0a0cf4e677ecf4a73d0b69772b3d332fb7dcae18dec4a7f1f63ce", func := "bodkin/bodkinlaw10.EncodeModule", spec := "encodeModule", unfollowed := true, recurses := true, loops := true, apart := false, narrowed := true }
def EncodeModuleUptoSaid : Prop := encodeModuleUptoRow.holds Tryz.pinned (OpenSpec.upto encodeModuleSpec)

/-- 'bodkinlaw10.EncodeCode', WHERE WHAT IT READS IS OF BULK AT MOST 1048576: true; the input reads as it did. -/
def encodeCodeUptoRow : OpenClaim := { program := "ytjgeedgphcjhoaagreat", sum := "10a4569b18e0a0cf4e677ecf4a73d0b69772b3d332fb7dcae18dec4a7f1f63ce", func := "bodkin/bodkinlaw10.EncodeCode", spec := "encodeCode", unfollowed := true, recurses := true, loops := true, apart := false, narrowed := true }
def EncodeCodeUptoSaid : Prop := encodeCodeUptoRow.holds Tryz.pinned (OpenSpec.upto encodeCodeSpec)

/-- 'bodkinlaw10.EncodeApart', WHERE WHAT IT READS IS OF BULK AT MOST 1048576: true; the input reads as it did. -/
def encodeApartUptoRow : OpenClaim := { program := "ytjgeedgphcjhoaagreat", sum := "10a4569b18e0a0cf4e677ecf4a73d0b69772b3d332fb7dcae18dec4a7f1f63ce", func := "bodkin/bodkinlaw10.EncodeApart", spec := "encodeApart", unfollowed := true, recurses := true, loops := true, apart := false, narrowed := true }
def EncodeApartUptoSaid : Prop := encodeApartUptoRow.holds Tryz.pinned (OpenSpec.upto encodeApartSpec)

/-- 'bodkinlaw10.EncodeDeep', WHERE WHAT IT READS IS OF BULK AT MOST 1048576: true; the input reads as it did. -/
def encodeDeepUptoRow : OpenClaim := { program := "ytjgeedgphcjhoaagreat", sum := "10a4569b18e0a0cf4e677ecf4a73d0b69772b3d332fb7dcae18dec4a7f1f63ce", func := "bodkin/bodkinlaw10.EncodeDeep", spec := "encodeDeep", unfollowed := true, recurses := true, apart := false, narrowed := true }
def EncodeDeepUptoSaid : Prop := encodeDeepUptoRow.holds Tryz.pinned (OpenSpec.upto encodeDeepSpec)

/-- 'bodkinlaw10.EncodeInstr', WHERE WHAT IT READS IS OF BULK AT MOST 1048576: true; the input reads as it did. -/
def encodeInstrUptoRow : OpenClaim := { program := "ytjgeedgphcjhoaagreat", sum := "10a4569b18e0a0cf4e677ecf4a73d0b69772b3d332fb7dcae18dec4a7f1f63ce", func := "bodkin/bodkinlaw10.EncodeInstr", spec := "encodeInstr", unfollowed := true, recurses := true, loops := true, apart := false, narrowed := true }
def EncodeInstrUptoSaid : Prop := encodeInstrUptoRow.holds Tryz.pinned (OpenSpec.upto encodeInstrSpec)

/-- 'bodkinlaw10.EncodeParts', WHERE WHAT IT READS IS OF BULK AT MOST 1048576: true; the input reads as it did. -/
def encodePartsUptoRow : OpenClaim := { program := "ytjgeedgphcjhoaagreat", sum := "10a4569b18e0a0cf4e677ecf4a73d0b69772b3d332fb7dcae18dec4a7f1f63ce", func := "bodkin/bodkinlaw10.EncodeParts", spec := "encodeParts", unfollowed := true, recurses := true, loops := true, apart := false, narrowed := true }
def EncodePartsUptoSaid : Prop := encodePartsUptoRow.holds Tryz.pinned (OpenSpec.upto encodePartsSpec)

end Rows
end Go.Proofs.YtjgeedgphcjhoaaGreat
