/-
  No cell of these rows narrows 'for every input' (looked for: loops, veiled, ifaces, maps, wideKeys, modest, calm, conditions, laid).
  DERIVED. THE GIVEN ROWS OF THIS SEAT. 12 by the template 'for every input the law returns true; each argument reads behind the call as it read before'; 0 by the template 'total and deterministic' (their statements: YticcmbeikdemmaaTotals.lean).
  GIVEN WITH THE SEED: the statements are not yours to turn. If you find one false, say at which input.
  Laid BY PROGRAM, IN A SANDBOX (cutbox-rows.mjs): the forced cells as the released guide's own fill.sh prints them over the translation 2ecc9a15255c1472… (all of the seat's roots in one cut). By AI agents, Wed Nov 11 2026. No macro, syntax, notation, axiom, sorry.
-/
import Derived.Test.YticcmbeikdemmaaChecked
import GoSem.Claim
import GoSem.ClaimJoined
import GoSem.ClaimMapViews
import Derived.JoinedTies
import Derived.KernelRfl
namespace Go.Proofs.Yticcmbeikdemmaa
/- THE CELL 'sum', in the pinned program and in every row, IS THE sha256 OF THE DUMP (.gsa) THAT YticcmbeikdemmaaProg.lean LOADS. Nothing in Lean hashes anything: it is a label: what it is worth is what the hold of that sum in a sandbox is worth. -/
noncomputable def Try.pinned : Pinned := { name := "yticcmbeikdemmaa", sum := "2ecc9a15255c14729de39930770f98f37350fa4fd9cb553c371c92d16b7f7491", checked := Try.checked }
namespace Rows
def none {H : Type} : Left H := { results := [], args := [] }

/-- 'bodkinlaw02.IntsBin': WHATEVER THE INPUT: true; the input reads as it did. -/
def intsBinSpec : ChangeSpec := { name := "intsBin", fn := fun _ => fun
  | [d1, d2, d3, d4] => { results := [.lit (.bool true)], args := [d1, d2, d3, d4] }
  | _ => none }
def intsBinRow : OpenClaim := { program := "yticcmbeikdemmaa", sum := "2ecc9a15255c14729de39930770f98f37350fa4fd9cb553c371c92d16b7f7491", func := "bodkin/bodkinlaw02.IntsBin", spec := "intsBin", apart := false }
def IntsBinSaid : Prop := intsBinRow.holds Try.pinned (OpenSpec.ofChange intsBinSpec)

/-- ITS FALSE NEIGHBOUR: 'it returns false'. Refute it at one input. -/
def intsBinWrong : ChangeSpec := { name := "intsBin", fn := fun _ => fun
  | [d1, d2, d3, d4] => { results := [.lit (.bool false)], args := [d1, d2, d3, d4] }
  | _ => none }
def IntsBinWrongFalsely : Prop := intsBinRow.holds Try.pinned (OpenSpec.ofChange intsBinWrong)

/-- 'bodkinlaw02.IntsAll': WHATEVER THE INPUT: true; the input reads as it did. -/
def intsAllSpec : ChangeSpec := { name := "intsAll", fn := fun _ => fun
  | [d1, d2] => { results := [.lit (.bool true)], args := [d1, d2] }
  | _ => none }
def intsAllRow : OpenClaim := { program := "yticcmbeikdemmaa", sum := "2ecc9a15255c14729de39930770f98f37350fa4fd9cb553c371c92d16b7f7491", func := "bodkin/bodkinlaw02.IntsAll", spec := "intsAll", apart := false }
def IntsAllSaid : Prop := intsAllRow.holds Try.pinned (OpenSpec.ofChange intsAllSpec)

/-- ITS FALSE NEIGHBOUR: 'it returns false'. Refute it at one input. -/
def intsAllWrong : ChangeSpec := { name := "intsAll", fn := fun _ => fun
  | [d1, d2] => { results := [.lit (.bool false)], args := [d1, d2] }
  | _ => none }
def IntsAllWrongFalsely : Prop := intsAllRow.holds Try.pinned (OpenSpec.ofChange intsAllWrong)

/-- 'bodkinlaw02.IntsOne': WHATEVER THE INPUT: true; the input reads as it did. -/
def intsOneSpec : ChangeSpec := { name := "intsOne", fn := fun _ => fun
  | [d1, d2, d3, d4] => { results := [.lit (.bool true)], args := [d1, d2, d3, d4] }
  | _ => none }
def intsOneRow : OpenClaim := { program := "yticcmbeikdemmaa", sum := "2ecc9a15255c14729de39930770f98f37350fa4fd9cb553c371c92d16b7f7491", func := "bodkin/bodkinlaw02.IntsOne", spec := "intsOne", apart := false }
def IntsOneSaid : Prop := intsOneRow.holds Try.pinned (OpenSpec.ofChange intsOneSpec)

/-- ITS FALSE NEIGHBOUR: 'it returns false'. Refute it at one input. -/
def intsOneWrong : ChangeSpec := { name := "intsOne", fn := fun _ => fun
  | [d1, d2, d3, d4] => { results := [.lit (.bool false)], args := [d1, d2, d3, d4] }
  | _ => none }
def IntsOneWrongFalsely : Prop := intsOneRow.holds Try.pinned (OpenSpec.ofChange intsOneWrong)

/-- 'bodkinlaw02.IntsDivides': WHATEVER THE INPUT: true; the input reads as it did. -/
def intsDividesSpec : ChangeSpec := { name := "intsDivides", fn := fun _ => fun
  | [d1, d2] => { results := [.lit (.bool true)], args := [d1, d2] }
  | _ => none }
def intsDividesRow : OpenClaim := { program := "yticcmbeikdemmaa", sum := "2ecc9a15255c14729de39930770f98f37350fa4fd9cb553c371c92d16b7f7491", func := "bodkin/bodkinlaw02.IntsDivides", spec := "intsDivides", apart := false }
def IntsDividesSaid : Prop := intsDividesRow.holds Try.pinned (OpenSpec.ofChange intsDividesSpec)

/-- ITS FALSE NEIGHBOUR: 'it returns false'. Refute it at one input. -/
def intsDividesWrong : ChangeSpec := { name := "intsDivides", fn := fun _ => fun
  | [d1, d2] => { results := [.lit (.bool false)], args := [d1, d2] }
  | _ => none }
def IntsDividesWrongFalsely : Prop := intsDividesRow.holds Try.pinned (OpenSpec.ofChange intsDividesWrong)

/-- 'bodkinlaw02.IntsRound': WHATEVER THE INPUT: true; the input reads as it did. -/
def intsRoundSpec : ChangeSpec := { name := "intsRound", fn := fun _ => fun
  | [d1, d2] => { results := [.lit (.bool true)], args := [d1, d2] }
  | _ => none }
def intsRoundRow : OpenClaim := { program := "yticcmbeikdemmaa", sum := "2ecc9a15255c14729de39930770f98f37350fa4fd9cb553c371c92d16b7f7491", func := "bodkin/bodkinlaw02.IntsRound", spec := "intsRound", apart := false }
def IntsRoundSaid : Prop := intsRoundRow.holds Try.pinned (OpenSpec.ofChange intsRoundSpec)

/-- ITS FALSE NEIGHBOUR: 'it returns false'. Refute it at one input. -/
def intsRoundWrong : ChangeSpec := { name := "intsRound", fn := fun _ => fun
  | [d1, d2] => { results := [.lit (.bool false)], args := [d1, d2] }
  | _ => none }
def IntsRoundWrongFalsely : Prop := intsRoundRow.holds Try.pinned (OpenSpec.ofChange intsRoundWrong)

/-- 'bodkinlaw02.IntsStand': WHATEVER THE INPUT: true; the input reads as it did. -/
def intsStandSpec : ChangeSpec := { name := "intsStand", fn := fun _ => fun
  | [d1, d2, d3] => { results := [.lit (.bool true)], args := [d1, d2, d3] }
  | _ => none }
def intsStandRow : OpenClaim := { program := "yticcmbeikdemmaa", sum := "2ecc9a15255c14729de39930770f98f37350fa4fd9cb553c371c92d16b7f7491", func := "bodkin/bodkinlaw02.IntsStand", spec := "intsStand", apart := false }
def IntsStandSaid : Prop := intsStandRow.holds Try.pinned (OpenSpec.ofChange intsStandSpec)

/-- ITS FALSE NEIGHBOUR: 'it returns false'. Refute it at one input. -/
def intsStandWrong : ChangeSpec := { name := "intsStand", fn := fun _ => fun
  | [d1, d2, d3] => { results := [.lit (.bool false)], args := [d1, d2, d3] }
  | _ => none }
def IntsStandWrongFalsely : Prop := intsStandRow.holds Try.pinned (OpenSpec.ofChange intsStandWrong)

/-- 'bodkinlaw02.IntsSums': WHATEVER THE INPUT: true; the input reads as it did. -/
def intsSumsSpec : ChangeSpec := { name := "intsSums", fn := fun _ => fun
  | [d1, d2] => { results := [.lit (.bool true)], args := [d1, d2] }
  | _ => none }
def intsSumsRow : OpenClaim := { program := "yticcmbeikdemmaa", sum := "2ecc9a15255c14729de39930770f98f37350fa4fd9cb553c371c92d16b7f7491", func := "bodkin/bodkinlaw02.IntsSums", spec := "intsSums", apart := false }
def IntsSumsSaid : Prop := intsSumsRow.holds Try.pinned (OpenSpec.ofChange intsSumsSpec)

/-- ITS FALSE NEIGHBOUR: 'it returns false'. Refute it at one input. -/
def intsSumsWrong : ChangeSpec := { name := "intsSums", fn := fun _ => fun
  | [d1, d2] => { results := [.lit (.bool false)], args := [d1, d2] }
  | _ => none }
def IntsSumsWrongFalsely : Prop := intsSumsRow.holds Try.pinned (OpenSpec.ofChange intsSumsWrong)

/-- 'bodkinlaw02.IntsQuotients': WHATEVER THE INPUT: true; the input reads as it did. -/
def intsQuotientsSpec : ChangeSpec := { name := "intsQuotients", fn := fun _ => fun
  | [d1, d2] => { results := [.lit (.bool true)], args := [d1, d2] }
  | _ => none }
def intsQuotientsRow : OpenClaim := { program := "yticcmbeikdemmaa", sum := "2ecc9a15255c14729de39930770f98f37350fa4fd9cb553c371c92d16b7f7491", func := "bodkin/bodkinlaw02.IntsQuotients", spec := "intsQuotients", apart := false }
def IntsQuotientsSaid : Prop := intsQuotientsRow.holds Try.pinned (OpenSpec.ofChange intsQuotientsSpec)

/-- ITS FALSE NEIGHBOUR: 'it returns false'. Refute it at one input. -/
def intsQuotientsWrong : ChangeSpec := { name := "intsQuotients", fn := fun _ => fun
  | [d1, d2] => { results := [.lit (.bool false)], args := [d1, d2] }
  | _ => none }
def IntsQuotientsWrongFalsely : Prop := intsQuotientsRow.holds Try.pinned (OpenSpec.ofChange intsQuotientsWrong)

/-- 'bodkinlaw02.IntsBits': WHATEVER THE INPUT: true; the input reads as it did. -/
def intsBitsSpec : ChangeSpec := { name := "intsBits", fn := fun _ => fun
  | [d1, d2] => { results := [.lit (.bool true)], args := [d1, d2] }
  | _ => none }
def intsBitsRow : OpenClaim := { program := "yticcmbeikdemmaa", sum := "2ecc9a15255c14729de39930770f98f37350fa4fd9cb553c371c92d16b7f7491", func := "bodkin/bodkinlaw02.IntsBits", spec := "intsBits", apart := false }
def IntsBitsSaid : Prop := intsBitsRow.holds Try.pinned (OpenSpec.ofChange intsBitsSpec)

/-- ITS FALSE NEIGHBOUR: 'it returns false'. Refute it at one input. -/
def intsBitsWrong : ChangeSpec := { name := "intsBits", fn := fun _ => fun
  | [d1, d2] => { results := [.lit (.bool false)], args := [d1, d2] }
  | _ => none }
def IntsBitsWrongFalsely : Prop := intsBitsRow.holds Try.pinned (OpenSpec.ofChange intsBitsWrong)

/-- 'bodkinlaw02.IntsMoves': WHATEVER THE INPUT: true; the input reads as it did. -/
def intsMovesSpec : ChangeSpec := { name := "intsMoves", fn := fun _ => fun
  | [d1, d2] => { results := [.lit (.bool true)], args := [d1, d2] }
  | _ => none }
def intsMovesRow : OpenClaim := { program := "yticcmbeikdemmaa", sum := "2ecc9a15255c14729de39930770f98f37350fa4fd9cb553c371c92d16b7f7491", func := "bodkin/bodkinlaw02.IntsMoves", spec := "intsMoves", apart := false }
def IntsMovesSaid : Prop := intsMovesRow.holds Try.pinned (OpenSpec.ofChange intsMovesSpec)

/-- ITS FALSE NEIGHBOUR: 'it returns false'. Refute it at one input. -/
def intsMovesWrong : ChangeSpec := { name := "intsMoves", fn := fun _ => fun
  | [d1, d2] => { results := [.lit (.bool false)], args := [d1, d2] }
  | _ => none }
def IntsMovesWrongFalsely : Prop := intsMovesRow.holds Try.pinned (OpenSpec.ofChange intsMovesWrong)

/-- 'bodkinlaw02.IntsHeld': WHATEVER THE INPUT: true; the input reads as it did. -/
def intsHeldSpec : ChangeSpec := { name := "intsHeld", fn := fun _ => fun
  | [d1, d2] => { results := [.lit (.bool true)], args := [d1, d2] }
  | _ => none }
def intsHeldRow : OpenClaim := { program := "yticcmbeikdemmaa", sum := "2ecc9a15255c14729de39930770f98f37350fa4fd9cb553c371c92d16b7f7491", func := "bodkin/bodkinlaw02.IntsHeld", spec := "intsHeld", apart := false }
def IntsHeldSaid : Prop := intsHeldRow.holds Try.pinned (OpenSpec.ofChange intsHeldSpec)

/-- ITS FALSE NEIGHBOUR: 'it returns false'. Refute it at one input. -/
def intsHeldWrong : ChangeSpec := { name := "intsHeld", fn := fun _ => fun
  | [d1, d2] => { results := [.lit (.bool false)], args := [d1, d2] }
  | _ => none }
def IntsHeldWrongFalsely : Prop := intsHeldRow.holds Try.pinned (OpenSpec.ofChange intsHeldWrong)

/-- 'bodkinlaw02.IntsEnds': WHATEVER THE INPUT: true; the input reads as it did. -/
def intsEndsSpec : ChangeSpec := { name := "intsEnds", fn := fun _ => fun
  | [d1, d2] => { results := [.lit (.bool true)], args := [d1, d2] }
  | _ => none }
def intsEndsRow : OpenClaim := { program := "yticcmbeikdemmaa", sum := "2ecc9a15255c14729de39930770f98f37350fa4fd9cb553c371c92d16b7f7491", func := "bodkin/bodkinlaw02.IntsEnds", spec := "intsEnds", apart := false }
def IntsEndsSaid : Prop := intsEndsRow.holds Try.pinned (OpenSpec.ofChange intsEndsSpec)

/-- ITS FALSE NEIGHBOUR: 'it returns false'. Refute it at one input. -/
def intsEndsWrong : ChangeSpec := { name := "intsEnds", fn := fun _ => fun
  | [d1, d2] => { results := [.lit (.bool false)], args := [d1, d2] }
  | _ => none }
def IntsEndsWrongFalsely : Prop := intsEndsRow.holds Try.pinned (OpenSpec.ofChange intsEndsWrong)

/- THE SECOND FORM. 'bulk': how many values and letters a reading holds, each counted each time it is reached (what is shared counts as often as it is met; a slice's spare places count too). A statement '..UptoSaid' is the law's where the arguments, and the package variables that the reading takes, are together of bulk at most 1048576: NARROWER than '..Said'. Prove '..Said' where nothing that the law and all that it calls make is longer than what came in: it says more and counts as full. Else prove '..UptoSaid'. A law counts once. -/
mutual
def uptoBulk {H : Type} : DataW H → Nat
  | .lit (.string bytes) => bytes.length + 1
  | .lit _ => 1
  | .nil => 1
  | .ptr d => uptoBulk d + 1
  | .slice elems spare => uptoBulkAll elems + uptoBulkAll spare + 1
  | .agg parts => uptoBulkAll parts + 1
  | .iface _ d => uptoBulk d + 1
  | .map entries => uptoBulkEntries entries + 1
  | .held _ => 1
def uptoBulkAll {H : Type} : List (DataW H) → Nat
  | [] => 0
  | d :: r => uptoBulk d + uptoBulkAll r
def uptoBulkEntries {H : Type} : List (Lit × DataW H) → Nat
  | [] => 0
  | x :: r => uptoBulkEntry x + uptoBulkEntries r
def uptoBulkEntry {H : Type} : Lit × DataW H → Nat
  | (.string bytes, d) => bytes.length + uptoBulk d + 1
  | (_, d) => uptoBulk d + 1
 end
def uptoSmall : (H : Type) → List (DataW H) → Bool := fun _ ds => decide (uptoBulkAll ds ≤ 1048576)
def OpenSpec.upto (s : _root_.Go.ChangeSpec) : _root_.Go.OpenSpec := { _root_.Go.OpenSpec.ofChange s with cond := some uptoSmall }

/-- 'bodkinlaw02.IntsBin', WHERE WHAT IT READS IS OF BULK AT MOST 1048576: true; the input reads as it did. -/
def intsBinUptoRow : OpenClaim := { program := "yticcmbeikdemmaa", sum := "2ecc9a15255c14729de39930770f98f37350fa4fd9cb553c371c92d16b7f7491", func := "bodkin/bodkinlaw02.IntsBin", spec := "intsBin", apart := false, narrowed := true }
def IntsBinUptoSaid : Prop := intsBinUptoRow.holds Try.pinned (OpenSpec.upto intsBinSpec)

/-- 'bodkinlaw02.IntsAll', WHERE WHAT IT READS IS OF BULK AT MOST 1048576: true; the input reads as it did. -/
def intsAllUptoRow : OpenClaim := { program := "yticcmbeikdemmaa", sum := "2ecc9a15255c14729de39930770f98f37350fa4fd9cb553c371c92d16b7f7491", func := "bodkin/bodkinlaw02.IntsAll", spec := "intsAll", apart := false, narrowed := true }
def IntsAllUptoSaid : Prop := intsAllUptoRow.holds Try.pinned (OpenSpec.upto intsAllSpec)

/-- 'bodkinlaw02.IntsOne', WHERE WHAT IT READS IS OF BULK AT MOST 1048576: true; the input reads as it did. -/
def intsOneUptoRow : OpenClaim := { program := "yticcmbeikdemmaa", sum := "2ecc9a15255c14729de39930770f98f37350fa4fd9cb553c371c92d16b7f7491", func := "bodkin/bodkinlaw02.IntsOne", spec := "intsOne", apart := false, narrowed := true }
def IntsOneUptoSaid : Prop := intsOneUptoRow.holds Try.pinned (OpenSpec.upto intsOneSpec)

/-- 'bodkinlaw02.IntsDivides', WHERE WHAT IT READS IS OF BULK AT MOST 1048576: true; the input reads as it did. -/
def intsDividesUptoRow : OpenClaim := { program := "yticcmbeikdemmaa", sum := "2ecc9a15255c14729de39930770f98f37350fa4fd9cb553c371c92d16b7f7491", func := "bodkin/bodkinlaw02.IntsDivides", spec := "intsDivides", apart := false, narrowed := true }
def IntsDividesUptoSaid : Prop := intsDividesUptoRow.holds Try.pinned (OpenSpec.upto intsDividesSpec)

/-- 'bodkinlaw02.IntsRound', WHERE WHAT IT READS IS OF BULK AT MOST 1048576: true; the input reads as it did. -/
def intsRoundUptoRow : OpenClaim := { program := "yticcmbeikdemmaa", sum := "2ecc9a15255c14729de39930770f98f37350fa4fd9cb553c371c92d16b7f7491", func := "bodkin/bodkinlaw02.IntsRound", spec := "intsRound", apart := false, narrowed := true }
def IntsRoundUptoSaid : Prop := intsRoundUptoRow.holds Try.pinned (OpenSpec.upto intsRoundSpec)

/-- 'bodkinlaw02.IntsStand', WHERE WHAT IT READS IS OF BULK AT MOST 1048576: true; the input reads as it did. -/
def intsStandUptoRow : OpenClaim := { program := "yticcmbeikdemmaa", sum := "2ecc9a15255c14729de39930770f98f37350fa4fd9cb553c371c92d16b7f7491", func := "bodkin/bodkinlaw02.IntsStand", spec := "intsStand", apart := false, narrowed := true }
def IntsStandUptoSaid : Prop := intsStandUptoRow.holds Try.pinned (OpenSpec.upto intsStandSpec)

/-- 'bodkinlaw02.IntsSums', WHERE WHAT IT READS IS OF BULK AT MOST 1048576: true; the input reads as it did. -/
def intsSumsUptoRow : OpenClaim := { program := "yticcmbeikdemmaa", sum := "2ecc9a15255c14729de39930770f98f37350fa4fd9cb553c371c92d16b7f7491", func := "bodkin/bodkinlaw02.IntsSums", spec := "intsSums", apart := false, narrowed := true }
def IntsSumsUptoSaid : Prop := intsSumsUptoRow.holds Try.pinned (OpenSpec.upto intsSumsSpec)

/-- 'bodkinlaw02.IntsQuotients', WHERE WHAT IT READS IS OF BULK AT MOST 1048576: true; the input reads as it did. -/
def intsQuotientsUptoRow : OpenClaim := { program := "yticcmbeikdemmaa", sum := "2ecc9a15255c14729de39930770f98f37350fa4fd9cb553c371c92d16b7f7491", func := "bodkin/bodkinlaw02.IntsQuotients", spec := "intsQuotients", apart := false, narrowed := true }
def IntsQuotientsUptoSaid : Prop := intsQuotientsUptoRow.holds Try.pinned (OpenSpec.upto intsQuotientsSpec)

/-- 'bodkinlaw02.IntsBits', WHERE WHAT IT READS IS OF BULK AT MOST 1048576: true; the input reads as it did. -/
def intsBitsUptoRow : OpenClaim := { program := "yticcmbeikdemmaa", sum := "2ecc9a15255c14729de39930770f98f37350fa4fd9cb553c371c92d16b7f7491", func := "bodkin/bodkinlaw02.IntsBits", spec := "intsBits", apart := false, narrowed := true }
def IntsBitsUptoSaid : Prop := intsBitsUptoRow.holds Try.pinned (OpenSpec.upto intsBitsSpec)

/-- 'bodkinlaw02.IntsMoves', WHERE WHAT IT READS IS OF BULK AT MOST 1048576: true; the input reads as it did. -/
def intsMovesUptoRow : OpenClaim := { program := "yticcmbeikdemmaa", sum := "2ecc9a15255c14729de39930770f98f37350fa4fd9cb553c371c92d16b7f7491", func := "bodkin/bodkinlaw02.IntsMoves", spec := "intsMoves", apart := false, narrowed := true }
def IntsMovesUptoSaid : Prop := intsMovesUptoRow.holds Try.pinned (OpenSpec.upto intsMovesSpec)

/-- 'bodkinlaw02.IntsHeld', WHERE WHAT IT READS IS OF BULK AT MOST 1048576: true; the input reads as it did. -/
def intsHeldUptoRow : OpenClaim := { program := "yticcmbeikdemmaa", sum := "2ecc9a15255c14729de39930770f98f37350fa4fd9cb553c371c92d16b7f7491", func := "bodkin/bodkinlaw02.IntsHeld", spec := "intsHeld", apart := false, narrowed := true }
def IntsHeldUptoSaid : Prop := intsHeldUptoRow.holds Try.pinned (OpenSpec.upto intsHeldSpec)

/-- 'bodkinlaw02.IntsEnds', WHERE WHAT IT READS IS OF BULK AT MOST 1048576: true; the input reads as it did. -/
def intsEndsUptoRow : OpenClaim := { program := "yticcmbeikdemmaa", sum := "2ecc9a15255c14729de39930770f98f37350fa4fd9cb553c371c92d16b7f7491", func := "bodkin/bodkinlaw02.IntsEnds", spec := "intsEnds", apart := false, narrowed := true }
def IntsEndsUptoSaid : Prop := intsEndsUptoRow.holds Try.pinned (OpenSpec.upto intsEndsSpec)

end Rows
end Go.Proofs.Yticcmbeikdemmaa
