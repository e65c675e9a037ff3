/-
  DERIVED. GIVEN WITH THE SEED: THE CARDS: each row of YtmgbjldogggpcaaGreatDoorRows.lean that lists a variable, with what it lists TIED to the program's text (the seventh form; the later family's looks); each row that meets fmt, with fmt's text TOLD by the authors' own Lean function (tested against real Go, not proved from fmt's source: count such statements apart). THE CARD IS WHAT COUNTS. Prove the row's statement (the work); the ties are given (YtmgbjldogggpcaaGreatDoorTie.lean); close each card by the builder's one call (the guide's Derived/Test/ToyasCard.lean, 'card_holds'). Laid BY PROGRAM, IN A SANDBOX (cutbox-door.mjs). By AI agents, Wed Nov 11 2026. No macro, syntax, notation, axiom, sorry.
-/
import Derived.Test.YtmgbjldogggpcaaGreatDoorRows
import GoSem.ClaimSeven
namespace Go.Proofs.YtmgbjldogggpcaaGreatDoor
namespace Rows

/-- THE TIED CARD OF 'exactreallaw15.LogarithmClose'. -/
def logarithmCloseCard : Claim7 := { stood := { row := logarithmCloseRow, standIns := [], harness := (true, "51f6da9a9cdff42ed74b8977e37cae444c920ea52e02ba2d56952018bfd7919a"), looks := false }, kinds := [], alts := [], laidByText := true, laidKinds := [.data], laidTests := true, laidLooks := .later }
def LogarithmCloseCardSaid : Prop := Claim7.holds Tryz.pinned (.plain (OpenSpec.ofChange logarithmCloseSpec)) logarithmCloseCard

/-- THE TIED CARD OF 'exactreallaw15.LogarithmFar'. -/
def logarithmFarCard : Claim7 := { stood := { row := logarithmFarRow, standIns := [], harness := (true, "51f6da9a9cdff42ed74b8977e37cae444c920ea52e02ba2d56952018bfd7919a"), looks := false }, kinds := [], alts := [], laidByText := true, laidKinds := [.data], laidTests := true, laidLooks := .later }
def LogarithmFarCardSaid : Prop := Claim7.holds Tryz.pinned (.plain (OpenSpec.ofChange logarithmFarSpec)) logarithmFarCard

/-- THE TIED CARD OF 'exactreallaw16.ArctangentClose'. -/
def arctangentCloseCard : Claim7 := { stood := { row := arctangentCloseRow, standIns := [], harness := (true, "51f6da9a9cdff42ed74b8977e37cae444c920ea52e02ba2d56952018bfd7919a"), looks := false }, kinds := [], alts := [], laidByText := true, laidKinds := [.data], laidTests := true, laidLooks := .later }
def ArctangentCloseCardSaid : Prop := Claim7.holds Tryz.pinned (.plain (OpenSpec.ofChange arctangentCloseSpec)) arctangentCloseCard

/-- THE TIED CARD OF 'exactreallaw16.ArctangentFar'. -/
def arctangentFarCard : Claim7 := { stood := { row := arctangentFarRow, standIns := [], harness := (true, "51f6da9a9cdff42ed74b8977e37cae444c920ea52e02ba2d56952018bfd7919a"), looks := false }, kinds := [], alts := [], laidByText := true, laidKinds := [.data], laidTests := true, laidLooks := .later }
def ArctangentFarCardSaid : Prop := Claim7.holds Tryz.pinned (.plain (OpenSpec.ofChange arctangentFarSpec)) arctangentFarCard

/-- THE TIED CARD OF 'exactreallaw16.ArctangentOdd'. -/
def arctangentOddCard : Claim7 := { stood := { row := arctangentOddRow, standIns := [], harness := (true, "51f6da9a9cdff42ed74b8977e37cae444c920ea52e02ba2d56952018bfd7919a"), looks := false }, kinds := [], alts := [], laidByText := true, laidKinds := [.data], laidTests := true, laidLooks := .later }
def ArctangentOddCardSaid : Prop := Claim7.holds Tryz.pinned (.plain (OpenSpec.ofChange arctangentOddSpec)) arctangentOddCard

/-- THE TIED CARD OF 'exactreallaw16.ArctangentPi'. -/
def arctangentPiCard : Claim7 := { stood := { row := arctangentPiRow, standIns := [], harness := (true, "51f6da9a9cdff42ed74b8977e37cae444c920ea52e02ba2d56952018bfd7919a"), looks := false }, kinds := [], alts := [], laidByText := true, laidKinds := [.data], laidTests := true, laidLooks := .later }
def ArctangentPiCardSaid : Prop := Claim7.holds Tryz.pinned (.plain (OpenSpec.ofChange arctangentPiSpec)) arctangentPiCard

/-- THE TIED CARD OF 'exactreallaw16.ArctangentRecips'. -/
def arctangentRecipsCard : Claim7 := { stood := { row := arctangentRecipsRow, standIns := [], harness := (true, "51f6da9a9cdff42ed74b8977e37cae444c920ea52e02ba2d56952018bfd7919a"), looks := false }, kinds := [], alts := [], laidByText := true, laidKinds := [.data], laidTests := true, laidLooks := .later }
def ArctangentRecipsCardSaid : Prop := Claim7.holds Tryz.pinned (.plain (OpenSpec.ofChange arctangentRecipsSpec)) arctangentRecipsCard

/-- THE TIED CARD OF 'exactreallaw16.ArctangentRises'. -/
def arctangentRisesCard : Claim7 := { stood := { row := arctangentRisesRow, standIns := [], harness := (true, "51f6da9a9cdff42ed74b8977e37cae444c920ea52e02ba2d56952018bfd7919a"), looks := false }, kinds := [], alts := [], laidByText := true, laidKinds := [.data], laidTests := true, laidLooks := .later }
def ArctangentRisesCardSaid : Prop := Claim7.holds Tryz.pinned (.plain (OpenSpec.ofChange arctangentRisesSpec)) arctangentRisesCard

/-- THE SECOND FORM's CARD OF 'exactreallaw15.LogarithmClose'. -/
def logarithmCloseUptoCard : Claim7 := { stood := { row := logarithmCloseUptoRow, standIns := [], harness := (true, "51f6da9a9cdff42ed74b8977e37cae444c920ea52e02ba2d56952018bfd7919a"), looks := false }, kinds := [], alts := [], laidByText := true, laidKinds := [.data], laidTests := true, laidLooks := .later }
def LogarithmCloseUptoCardSaid : Prop := Claim7.holds Tryz.pinned (.plain (OpenSpec.upto logarithmCloseSpec)) logarithmCloseUptoCard

/-- THE SECOND FORM's CARD OF 'exactreallaw15.LogarithmFar'. -/
def logarithmFarUptoCard : Claim7 := { stood := { row := logarithmFarUptoRow, standIns := [], harness := (true, "51f6da9a9cdff42ed74b8977e37cae444c920ea52e02ba2d56952018bfd7919a"), looks := false }, kinds := [], alts := [], laidByText := true, laidKinds := [.data], laidTests := true, laidLooks := .later }
def LogarithmFarUptoCardSaid : Prop := Claim7.holds Tryz.pinned (.plain (OpenSpec.upto logarithmFarSpec)) logarithmFarUptoCard

/-- THE SECOND FORM's CARD OF 'exactreallaw16.ArctangentClose'. -/
def arctangentCloseUptoCard : Claim7 := { stood := { row := arctangentCloseUptoRow, standIns := [], harness := (true, "51f6da9a9cdff42ed74b8977e37cae444c920ea52e02ba2d56952018bfd7919a"), looks := false }, kinds := [], alts := [], laidByText := true, laidKinds := [.data], laidTests := true, laidLooks := .later }
def ArctangentCloseUptoCardSaid : Prop := Claim7.holds Tryz.pinned (.plain (OpenSpec.upto arctangentCloseSpec)) arctangentCloseUptoCard

/-- THE SECOND FORM's CARD OF 'exactreallaw16.ArctangentFar'. -/
def arctangentFarUptoCard : Claim7 := { stood := { row := arctangentFarUptoRow, standIns := [], harness := (true, "51f6da9a9cdff42ed74b8977e37cae444c920ea52e02ba2d56952018bfd7919a"), looks := false }, kinds := [], alts := [], laidByText := true, laidKinds := [.data], laidTests := true, laidLooks := .later }
def ArctangentFarUptoCardSaid : Prop := Claim7.holds Tryz.pinned (.plain (OpenSpec.upto arctangentFarSpec)) arctangentFarUptoCard

/-- THE SECOND FORM's CARD OF 'exactreallaw16.ArctangentOdd'. -/
def arctangentOddUptoCard : Claim7 := { stood := { row := arctangentOddUptoRow, standIns := [], harness := (true, "51f6da9a9cdff42ed74b8977e37cae444c920ea52e02ba2d56952018bfd7919a"), looks := false }, kinds := [], alts := [], laidByText := true, laidKinds := [.data], laidTests := true, laidLooks := .later }
def ArctangentOddUptoCardSaid : Prop := Claim7.holds Tryz.pinned (.plain (OpenSpec.upto arctangentOddSpec)) arctangentOddUptoCard

/-- THE SECOND FORM's CARD OF 'exactreallaw16.ArctangentPi'. -/
def arctangentPiUptoCard : Claim7 := { stood := { row := arctangentPiUptoRow, standIns := [], harness := (true, "51f6da9a9cdff42ed74b8977e37cae444c920ea52e02ba2d56952018bfd7919a"), looks := false }, kinds := [], alts := [], laidByText := true, laidKinds := [.data], laidTests := true, laidLooks := .later }
def ArctangentPiUptoCardSaid : Prop := Claim7.holds Tryz.pinned (.plain (OpenSpec.upto arctangentPiSpec)) arctangentPiUptoCard

/-- THE SECOND FORM's CARD OF 'exactreallaw16.ArctangentRecips'. -/
def arctangentRecipsUptoCard : Claim7 := { stood := { row := arctangentRecipsUptoRow, standIns := [], harness := (true, "51f6da9a9cdff42ed74b8977e37cae444c920ea52e02ba2d56952018bfd7919a"), looks := false }, kinds := [], alts := [], laidByText := true, laidKinds := [.data], laidTests := true, laidLooks := .later }
def ArctangentRecipsUptoCardSaid : Prop := Claim7.holds Tryz.pinned (.plain (OpenSpec.upto arctangentRecipsSpec)) arctangentRecipsUptoCard

/-- THE SECOND FORM's CARD OF 'exactreallaw16.ArctangentRises'. -/
def arctangentRisesUptoCard : Claim7 := { stood := { row := arctangentRisesUptoRow, standIns := [], harness := (true, "51f6da9a9cdff42ed74b8977e37cae444c920ea52e02ba2d56952018bfd7919a"), looks := false }, kinds := [], alts := [], laidByText := true, laidKinds := [.data], laidTests := true, laidLooks := .later }
def ArctangentRisesUptoCardSaid : Prop := Claim7.holds Tryz.pinned (.plain (OpenSpec.upto arctangentRisesSpec)) arctangentRisesUptoCard
end Rows
end Go.Proofs.YtmgbjldogggpcaaGreatDoor
