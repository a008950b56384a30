/-
  DERIVED. GIVEN WITH THE SEED: THE CARDS: each row of YtlhakbkdlgejpaaGreatDoorRows.lean that lists a variable, with what it lists TIED to the program's text (the seventh form; the later family's looks); each row that meets fmt, with fmt's text TOLD by the authors' own Lean function (tested against real Go, not proved from fmt's source: count such statements apart). THE CARD IS WHAT COUNTS. Prove the row's statement (the work); the ties are given (YtlhakbkdlgejpaaGreatDoorTie.lean); close each card by the builder's one call (the guide's Derived/Test/ToyasCard.lean, 'card_holds'). Laid BY PROGRAM, IN A SANDBOX (cutbox-door.mjs). By AI agents, Wed Nov 11 2026. No macro, syntax, notation, axiom, sorry.
-/
import Derived.Test.YtlhakbkdlgejpaaGreatDoorRows
import GoSem.ClaimSeven
namespace Go.Proofs.YtlhakbkdlgejpaaGreatDoor
namespace Rows

/-- THE TIED CARD OF 'bodkinlaw06.LanesReplaces'. -/
def lanesReplacesCard : Claim7 := { stood := { row := lanesReplacesRow, standIns := [], harness := (true, "07dd6185201ae98baf04867d73b63cdfc6ec7655c27743108eebae4ccc9792e1"), looks := false }, kinds := [], alts := [], laidByText := true, laidKinds := [.data, .data, .data, .data, .data], laidTests := true, laidLooks := .later }
def LanesReplacesCardSaid : Prop := Claim7.holds Tryz.pinned (.plain (OpenSpec.ofChange lanesReplacesSpec)) lanesReplacesCard

/-- THE TIED CARD OF 'bodkinlaw06.LanesMoves'. -/
def lanesMovesCard : Claim7 := { stood := { row := lanesMovesRow, standIns := [], harness := (true, "07dd6185201ae98baf04867d73b63cdfc6ec7655c27743108eebae4ccc9792e1"), looks := false }, kinds := [], alts := [], laidByText := true, laidKinds := [.data, .data, .data, .data, .data], laidTests := true, laidLooks := .later }
def LanesMovesCardSaid : Prop := Claim7.holds Tryz.pinned (.plain (OpenSpec.ofChange lanesMovesSpec)) lanesMovesCard

/-- THE TIED CARD OF 'bodkinlaw06.LanesFloatsStand'. -/
def lanesFloatsStandCard : Claim7 := { stood := { row := lanesFloatsStandRow, standIns := [], harness := (true, "07dd6185201ae98baf04867d73b63cdfc6ec7655c27743108eebae4ccc9792e1"), looks := false }, kinds := [], alts := [], laidByText := true, laidKinds := [.data, .data, .data, .data, .data], laidTests := true, laidLooks := .later }
def LanesFloatsStandCardSaid : Prop := Claim7.holds Tryz.pinned (.plain (OpenSpec.ofChange lanesFloatsStandSpec)) lanesFloatsStandCard

/-- THE TIED CARD OF 'bodkinlaw06.LanesFloats'. -/
def lanesFloatsCard : Claim7 := { stood := { row := lanesFloatsRow, standIns := [], harness := (true, "07dd6185201ae98baf04867d73b63cdfc6ec7655c27743108eebae4ccc9792e1"), looks := false }, kinds := [], alts := [], laidByText := true, laidKinds := [.data, .data, .data, .data, .data], laidTests := true, laidLooks := .later }
def LanesFloatsCardSaid : Prop := Claim7.holds Tryz.pinned (.plain (OpenSpec.ofChange lanesFloatsSpec)) lanesFloatsCard

/-- THE TIED CARD OF 'bodkinlaw06.LanesFloatOnes'. -/
def lanesFloatOnesCard : Claim7 := { stood := { row := lanesFloatOnesRow, standIns := [], harness := (true, "07dd6185201ae98baf04867d73b63cdfc6ec7655c27743108eebae4ccc9792e1"), looks := false }, kinds := [], alts := [], laidByText := true, laidKinds := [.data, .data, .data, .data, .data], laidTests := true, laidLooks := .later }
def LanesFloatOnesCardSaid : Prop := Claim7.holds Tryz.pinned (.plain (OpenSpec.ofChange lanesFloatOnesSpec)) lanesFloatOnesCard

/-- THE TIED CARD OF 'bodkinlaw06.LanesNarrows'. -/
def lanesNarrowsCard : Claim7 := { stood := { row := lanesNarrowsRow, standIns := [], harness := (true, "07dd6185201ae98baf04867d73b63cdfc6ec7655c27743108eebae4ccc9792e1"), looks := false }, kinds := [], alts := [], laidByText := true, laidKinds := [.data, .data, .data, .data, .data], laidTests := true, laidLooks := .later }
def LanesNarrowsCardSaid : Prop := Claim7.holds Tryz.pinned (.plain (OpenSpec.ofChange lanesNarrowsSpec)) lanesNarrowsCard

/-- THE TIED CARD OF 'bodkinlaw06.LanesWidens'. -/
def lanesWidensCard : Claim7 := { stood := { row := lanesWidensRow, standIns := [], harness := (true, "07dd6185201ae98baf04867d73b63cdfc6ec7655c27743108eebae4ccc9792e1"), looks := false }, kinds := [], alts := [], laidByText := true, laidKinds := [.data, .data, .data, .data, .data], laidTests := true, laidLooks := .later }
def LanesWidensCardSaid : Prop := Claim7.holds Tryz.pinned (.plain (OpenSpec.ofChange lanesWidensSpec)) lanesWidensCard

/-- THE TIED CARD OF 'bodkinlaw06.LanesProducts'. -/
def lanesProductsCard : Claim7 := { stood := { row := lanesProductsRow, standIns := [], harness := (true, "07dd6185201ae98baf04867d73b63cdfc6ec7655c27743108eebae4ccc9792e1"), looks := false }, kinds := [], alts := [], laidByText := true, laidKinds := [.data, .data, .data, .data, .data], laidTests := true, laidLooks := .later }
def LanesProductsCardSaid : Prop := Claim7.holds Tryz.pinned (.plain (OpenSpec.ofChange lanesProductsSpec)) lanesProductsCard

/-- THE TIED CARD OF 'bodkinlaw06.LanesChooses'. -/
def lanesChoosesCard : Claim7 := { stood := { row := lanesChoosesRow, standIns := [], harness := (true, "07dd6185201ae98baf04867d73b63cdfc6ec7655c27743108eebae4ccc9792e1"), looks := false }, kinds := [], alts := [], laidByText := true, laidKinds := [.data, .data, .data, .data, .data], laidTests := true, laidLooks := .later }
def LanesChoosesCardSaid : Prop := Claim7.holds Tryz.pinned (.plain (OpenSpec.ofChange lanesChoosesSpec)) lanesChoosesCard

/-- THE TIED CARD OF 'bodkinlaw06.LanesBits'. -/
def lanesBitsCard : Claim7 := { stood := { row := lanesBitsRow, standIns := [], harness := (true, "07dd6185201ae98baf04867d73b63cdfc6ec7655c27743108eebae4ccc9792e1"), looks := false }, kinds := [], alts := [], laidByText := true, laidKinds := [.data, .data, .data, .data, .data], laidTests := true, laidLooks := .later }
def LanesBitsCardSaid : Prop := Claim7.holds Tryz.pinned (.plain (OpenSpec.ofChange lanesBitsSpec)) lanesBitsCard

/-- THE TIED CARD OF 'bodkinlaw07.ScalarTraps'. -/
def scalarTrapsCard : Claim7 := { stood := { row := scalarTrapsRow, standIns := [], harness := (true, "07dd6185201ae98baf04867d73b63cdfc6ec7655c27743108eebae4ccc9792e1"), looks := false }, kinds := [], alts := [], laidByText := true, laidKinds := [.data, .data, .data, .data, .data, .data], laidTests := true, laidLooks := .later }
def ScalarTrapsCardSaid : Prop := Claim7.holds Tryz.pinned (.plain (OpenSpec.ofChange scalarTrapsSpec)) scalarTrapsCard

/-- THE TIED CARD OF 'bodkinlaw07.ScalarWords'. -/
def scalarWordsCard : Claim7 := { stood := { row := scalarWordsRow, standIns := [], harness := (true, "07dd6185201ae98baf04867d73b63cdfc6ec7655c27743108eebae4ccc9792e1"), looks := false }, kinds := [], alts := [], laidByText := true, laidKinds := [.data, .data, .data, .data, .data, .data], laidTests := true, laidLooks := .later }
def ScalarWordsCardSaid : Prop := Claim7.holds Tryz.pinned (.plain (OpenSpec.ofChange scalarWordsSpec)) scalarWordsCard

/-- THE TIED CARD OF 'bodkinlaw07.ScalarLongs'. -/
def scalarLongsCard : Claim7 := { stood := { row := scalarLongsRow, standIns := [], harness := (true, "07dd6185201ae98baf04867d73b63cdfc6ec7655c27743108eebae4ccc9792e1"), looks := false }, kinds := [], alts := [], laidByText := true, laidKinds := [.data, .data, .data, .data, .data, .data], laidTests := true, laidLooks := .later }
def ScalarLongsCardSaid : Prop := Claim7.holds Tryz.pinned (.plain (OpenSpec.ofChange scalarLongsSpec)) scalarLongsCard

/-- THE TIED CARD OF 'bodkinlaw07.ScalarStand'. -/
def scalarStandCard : Claim7 := { stood := { row := scalarStandRow, standIns := [], harness := (true, "07dd6185201ae98baf04867d73b63cdfc6ec7655c27743108eebae4ccc9792e1"), looks := false }, kinds := [], alts := [], laidByText := true, laidKinds := [.data, .data, .data, .data, .data, .data], laidTests := true, laidLooks := .later }
def ScalarStandCardSaid : Prop := Claim7.holds Tryz.pinned (.plain (OpenSpec.ofChange scalarStandSpec)) scalarStandCard

/-- THE TIED CARD OF 'bodkinlaw07.ScalarFloats'. -/
def scalarFloatsCard : Claim7 := { stood := { row := scalarFloatsRow, standIns := [], harness := (true, "07dd6185201ae98baf04867d73b63cdfc6ec7655c27743108eebae4ccc9792e1"), looks := false }, kinds := [], alts := [], laidByText := true, laidKinds := [.data, .data, .data, .data, .data, .data], laidTests := true, laidLooks := .later }
def ScalarFloatsCardSaid : Prop := Claim7.holds Tryz.pinned (.plain (OpenSpec.ofChange scalarFloatsSpec)) scalarFloatsCard

/-- THE TIED CARD OF 'bodkinlaw07.ScalarHeld'. -/
def scalarHeldCard : Claim7 := { stood := { row := scalarHeldRow, standIns := [], harness := (true, "07dd6185201ae98baf04867d73b63cdfc6ec7655c27743108eebae4ccc9792e1"), looks := false }, kinds := [], alts := [], laidByText := true, laidKinds := [.data, .data, .data, .data, .data, .data], laidTests := true, laidLooks := .later }
def ScalarHeldCardSaid : Prop := Claim7.holds Tryz.pinned (.plain (OpenSpec.ofChange scalarHeldSpec)) scalarHeldCard

/-- THE SECOND FORM's CARD OF 'bodkinlaw06.LanesReplaces'. -/
def lanesReplacesUptoCard : Claim7 := { stood := { row := lanesReplacesUptoRow, standIns := [], harness := (true, "07dd6185201ae98baf04867d73b63cdfc6ec7655c27743108eebae4ccc9792e1"), looks := false }, kinds := [], alts := [], laidByText := true, laidKinds := [.data, .data, .data, .data, .data], laidTests := true, laidLooks := .later }
def LanesReplacesUptoCardSaid : Prop := Claim7.holds Tryz.pinned (.plain (OpenSpec.upto lanesReplacesSpec)) lanesReplacesUptoCard

/-- THE SECOND FORM's CARD OF 'bodkinlaw06.LanesMoves'. -/
def lanesMovesUptoCard : Claim7 := { stood := { row := lanesMovesUptoRow, standIns := [], harness := (true, "07dd6185201ae98baf04867d73b63cdfc6ec7655c27743108eebae4ccc9792e1"), looks := false }, kinds := [], alts := [], laidByText := true, laidKinds := [.data, .data, .data, .data, .data], laidTests := true, laidLooks := .later }
def LanesMovesUptoCardSaid : Prop := Claim7.holds Tryz.pinned (.plain (OpenSpec.upto lanesMovesSpec)) lanesMovesUptoCard

/-- THE SECOND FORM's CARD OF 'bodkinlaw06.LanesFloatsStand'. -/
def lanesFloatsStandUptoCard : Claim7 := { stood := { row := lanesFloatsStandUptoRow, standIns := [], harness := (true, "07dd6185201ae98baf04867d73b63cdfc6ec7655c27743108eebae4ccc9792e1"), looks := false }, kinds := [], alts := [], laidByText := true, laidKinds := [.data, .data, .data, .data, .data], laidTests := true, laidLooks := .later }
def LanesFloatsStandUptoCardSaid : Prop := Claim7.holds Tryz.pinned (.plain (OpenSpec.upto lanesFloatsStandSpec)) lanesFloatsStandUptoCard

/-- THE SECOND FORM's CARD OF 'bodkinlaw06.LanesFloats'. -/
def lanesFloatsUptoCard : Claim7 := { stood := { row := lanesFloatsUptoRow, standIns := [], harness := (true, "07dd6185201ae98baf04867d73b63cdfc6ec7655c27743108eebae4ccc9792e1"), looks := false }, kinds := [], alts := [], laidByText := true, laidKinds := [.data, .data, .data, .data, .data], laidTests := true, laidLooks := .later }
def LanesFloatsUptoCardSaid : Prop := Claim7.holds Tryz.pinned (.plain (OpenSpec.upto lanesFloatsSpec)) lanesFloatsUptoCard

/-- THE SECOND FORM's CARD OF 'bodkinlaw06.LanesFloatOnes'. -/
def lanesFloatOnesUptoCard : Claim7 := { stood := { row := lanesFloatOnesUptoRow, standIns := [], harness := (true, "07dd6185201ae98baf04867d73b63cdfc6ec7655c27743108eebae4ccc9792e1"), looks := false }, kinds := [], alts := [], laidByText := true, laidKinds := [.data, .data, .data, .data, .data], laidTests := true, laidLooks := .later }
def LanesFloatOnesUptoCardSaid : Prop := Claim7.holds Tryz.pinned (.plain (OpenSpec.upto lanesFloatOnesSpec)) lanesFloatOnesUptoCard

/-- THE SECOND FORM's CARD OF 'bodkinlaw06.LanesNarrows'. -/
def lanesNarrowsUptoCard : Claim7 := { stood := { row := lanesNarrowsUptoRow, standIns := [], harness := (true, "07dd6185201ae98baf04867d73b63cdfc6ec7655c27743108eebae4ccc9792e1"), looks := false }, kinds := [], alts := [], laidByText := true, laidKinds := [.data, .data, .data, .data, .data], laidTests := true, laidLooks := .later }
def LanesNarrowsUptoCardSaid : Prop := Claim7.holds Tryz.pinned (.plain (OpenSpec.upto lanesNarrowsSpec)) lanesNarrowsUptoCard

/-- THE SECOND FORM's CARD OF 'bodkinlaw06.LanesWidens'. -/
def lanesWidensUptoCard : Claim7 := { stood := { row := lanesWidensUptoRow, standIns := [], harness := (true, "07dd6185201ae98baf04867d73b63cdfc6ec7655c27743108eebae4ccc9792e1"), looks := false }, kinds := [], alts := [], laidByText := true, laidKinds := [.data, .data, .data, .data, .data], laidTests := true, laidLooks := .later }
def LanesWidensUptoCardSaid : Prop := Claim7.holds Tryz.pinned (.plain (OpenSpec.upto lanesWidensSpec)) lanesWidensUptoCard

/-- THE SECOND FORM's CARD OF 'bodkinlaw06.LanesProducts'. -/
def lanesProductsUptoCard : Claim7 := { stood := { row := lanesProductsUptoRow, standIns := [], harness := (true, "07dd6185201ae98baf04867d73b63cdfc6ec7655c27743108eebae4ccc9792e1"), looks := false }, kinds := [], alts := [], laidByText := true, laidKinds := [.data, .data, .data, .data, .data], laidTests := true, laidLooks := .later }
def LanesProductsUptoCardSaid : Prop := Claim7.holds Tryz.pinned (.plain (OpenSpec.upto lanesProductsSpec)) lanesProductsUptoCard

/-- THE SECOND FORM's CARD OF 'bodkinlaw06.LanesChooses'. -/
def lanesChoosesUptoCard : Claim7 := { stood := { row := lanesChoosesUptoRow, standIns := [], harness := (true, "07dd6185201ae98baf04867d73b63cdfc6ec7655c27743108eebae4ccc9792e1"), looks := false }, kinds := [], alts := [], laidByText := true, laidKinds := [.data, .data, .data, .data, .data], laidTests := true, laidLooks := .later }
def LanesChoosesUptoCardSaid : Prop := Claim7.holds Tryz.pinned (.plain (OpenSpec.upto lanesChoosesSpec)) lanesChoosesUptoCard

/-- THE SECOND FORM's CARD OF 'bodkinlaw06.LanesBits'. -/
def lanesBitsUptoCard : Claim7 := { stood := { row := lanesBitsUptoRow, standIns := [], harness := (true, "07dd6185201ae98baf04867d73b63cdfc6ec7655c27743108eebae4ccc9792e1"), looks := false }, kinds := [], alts := [], laidByText := true, laidKinds := [.data, .data, .data, .data, .data], laidTests := true, laidLooks := .later }
def LanesBitsUptoCardSaid : Prop := Claim7.holds Tryz.pinned (.plain (OpenSpec.upto lanesBitsSpec)) lanesBitsUptoCard

/-- THE SECOND FORM's CARD OF 'bodkinlaw07.ScalarTraps'. -/
def scalarTrapsUptoCard : Claim7 := { stood := { row := scalarTrapsUptoRow, standIns := [], harness := (true, "07dd6185201ae98baf04867d73b63cdfc6ec7655c27743108eebae4ccc9792e1"), looks := false }, kinds := [], alts := [], laidByText := true, laidKinds := [.data, .data, .data, .data, .data, .data], laidTests := true, laidLooks := .later }
def ScalarTrapsUptoCardSaid : Prop := Claim7.holds Tryz.pinned (.plain (OpenSpec.upto scalarTrapsSpec)) scalarTrapsUptoCard

/-- THE SECOND FORM's CARD OF 'bodkinlaw07.ScalarWords'. -/
def scalarWordsUptoCard : Claim7 := { stood := { row := scalarWordsUptoRow, standIns := [], harness := (true, "07dd6185201ae98baf04867d73b63cdfc6ec7655c27743108eebae4ccc9792e1"), looks := false }, kinds := [], alts := [], laidByText := true, laidKinds := [.data, .data, .data, .data, .data, .data], laidTests := true, laidLooks := .later }
def ScalarWordsUptoCardSaid : Prop := Claim7.holds Tryz.pinned (.plain (OpenSpec.upto scalarWordsSpec)) scalarWordsUptoCard

/-- THE SECOND FORM's CARD OF 'bodkinlaw07.ScalarLongs'. -/
def scalarLongsUptoCard : Claim7 := { stood := { row := scalarLongsUptoRow, standIns := [], harness := (true, "07dd6185201ae98baf04867d73b63cdfc6ec7655c27743108eebae4ccc9792e1"), looks := false }, kinds := [], alts := [], laidByText := true, laidKinds := [.data, .data, .data, .data, .data, .data], laidTests := true, laidLooks := .later }
def ScalarLongsUptoCardSaid : Prop := Claim7.holds Tryz.pinned (.plain (OpenSpec.upto scalarLongsSpec)) scalarLongsUptoCard

/-- THE SECOND FORM's CARD OF 'bodkinlaw07.ScalarStand'. -/
def scalarStandUptoCard : Claim7 := { stood := { row := scalarStandUptoRow, standIns := [], harness := (true, "07dd6185201ae98baf04867d73b63cdfc6ec7655c27743108eebae4ccc9792e1"), looks := false }, kinds := [], alts := [], laidByText := true, laidKinds := [.data, .data, .data, .data, .data, .data], laidTests := true, laidLooks := .later }
def ScalarStandUptoCardSaid : Prop := Claim7.holds Tryz.pinned (.plain (OpenSpec.upto scalarStandSpec)) scalarStandUptoCard

/-- THE SECOND FORM's CARD OF 'bodkinlaw07.ScalarFloats'. -/
def scalarFloatsUptoCard : Claim7 := { stood := { row := scalarFloatsUptoRow, standIns := [], harness := (true, "07dd6185201ae98baf04867d73b63cdfc6ec7655c27743108eebae4ccc9792e1"), looks := false }, kinds := [], alts := [], laidByText := true, laidKinds := [.data, .data, .data, .data, .data, .data], laidTests := true, laidLooks := .later }
def ScalarFloatsUptoCardSaid : Prop := Claim7.holds Tryz.pinned (.plain (OpenSpec.upto scalarFloatsSpec)) scalarFloatsUptoCard

/-- THE SECOND FORM's CARD OF 'bodkinlaw07.ScalarHeld'. -/
def scalarHeldUptoCard : Claim7 := { stood := { row := scalarHeldUptoRow, standIns := [], harness := (true, "07dd6185201ae98baf04867d73b63cdfc6ec7655c27743108eebae4ccc9792e1"), looks := false }, kinds := [], alts := [], laidByText := true, laidKinds := [.data, .data, .data, .data, .data, .data], laidTests := true, laidLooks := .later }
def ScalarHeldUptoCardSaid : Prop := Claim7.holds Tryz.pinned (.plain (OpenSpec.upto scalarHeldSpec)) scalarHeldUptoCard
end Rows
end Go.Proofs.YtlhakbkdlgejpaaGreatDoor
