/-
  DERIVED. GIVEN WITH THE SEED: THE CARDS: each row of YtbbmbhcbncenaaaGreatDoorRows.lean that lists a variable, with what it lists TIED to the program's text (the seventh form; the later family's looks); each row that meets fmt, with fmt's text TOLD by the authors' own Lean function (tested against real Go, not proved from fmt's source: count such statements apart). THE CARD IS WHAT COUNTS. Prove the row's statement (the work); the ties are given (YtbbmbhcbncenaaaGreatDoorTie.lean); close each card by the builder's one call (the guide's Derived/Test/ToyasCard.lean, 'card_holds'). Laid BY PROGRAM, IN A SANDBOX (cutbox-door.mjs). By AI agents, Wed Nov 11 2026. No macro, syntax, notation, axiom, sorry.
-/
import Derived.Test.YtbbmbhcbncenaaaGreatDoorRows
import GoSem.ClaimSeven
namespace Go.Proofs.YtbbmbhcbncenaaaGreatDoor
namespace Rows

/-- THE TIED CARD OF 'bodkinlaw07.ScalarTraps'. -/
def scalarTrapsCard : Claim7 := { stood := { row := scalarTrapsRow, standIns := [], harness := (true, "89a08de8da83adad4017d4fb2f24e1ab5c5f0a63e4e7d024adc0e6758a0c1191"), looks := false }, kinds := [], alts := [], laidByText := true, laidKinds := [.data, .data, .data, .data, .data, .data], laidTests := true, laidLooks := .later }
def ScalarTrapsCardSaid : Prop := Claim7.holds Tryz.pinned (.plain (OpenSpec.ofChange scalarTrapsSpec)) scalarTrapsCard

/-- THE SECOND FORM's CARD OF 'bodkinlaw07.ScalarTraps'. -/
def scalarTrapsUptoCard : Claim7 := { stood := { row := scalarTrapsUptoRow, standIns := [], harness := (true, "89a08de8da83adad4017d4fb2f24e1ab5c5f0a63e4e7d024adc0e6758a0c1191"), looks := false }, kinds := [], alts := [], laidByText := true, laidKinds := [.data, .data, .data, .data, .data, .data], laidTests := true, laidLooks := .later }
def ScalarTrapsUptoCardSaid : Prop := Claim7.holds Tryz.pinned (.plain (OpenSpec.upto scalarTrapsSpec)) scalarTrapsUptoCard
end Rows
end Go.Proofs.YtbbmbhcbncenaaaGreatDoor
