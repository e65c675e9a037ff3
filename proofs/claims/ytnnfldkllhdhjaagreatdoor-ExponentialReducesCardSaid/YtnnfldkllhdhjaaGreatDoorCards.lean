/-
  DERIVED. GIVEN WITH THE SEED: THE CARDS: each row of YtnnfldkllhdhjaaGreatDoorRows.lean that lists a variable, with what it lists TIED to the program's text (the seventh form; the later family's looks); each row that meets fmt, with fmt's text TOLD by the authors' own Lean function (tested against real Go, not proved from fmt's source: count such statements apart). THE CARD IS WHAT COUNTS. Prove the row's statement (the work); the ties are given (YtnnfldkllhdhjaaGreatDoorTie.lean); close each card by the builder's one call (the guide's Derived/Test/ToyasCard.lean, 'card_holds'). Laid BY PROGRAM, IN A SANDBOX (cutbox-door.mjs). By AI agents, Wed Nov 11 2026. No macro, syntax, notation, axiom, sorry.
-/
import Derived.Test.YtnnfldkllhdhjaaGreatDoorRows
import GoSem.ClaimSeven
namespace Go.Proofs.YtnnfldkllhdhjaaGreatDoor
namespace Rows

/-- THE TIED CARD OF 'exactreallaw14.ExponentialClose'. -/
def exponentialCloseCard : Claim7 := { stood := { row := exponentialCloseRow, standIns := [], harness := (true, "3293f4aa690981dc15476fe766c3409c2cdc21b9c1f6741ab7e87128373fe5d5"), looks := false }, kinds := [], alts := [], laidByText := true, laidKinds := [.data], laidTests := true, laidLooks := .later }
def ExponentialCloseCardSaid : Prop := Claim7.holds Tryz.pinned (.plain (OpenSpec.ofChange exponentialCloseSpec)) exponentialCloseCard

/-- THE TIED CARD OF 'exactreallaw14.ExponentialFar'. -/
def exponentialFarCard : Claim7 := { stood := { row := exponentialFarRow, standIns := [], harness := (true, "3293f4aa690981dc15476fe766c3409c2cdc21b9c1f6741ab7e87128373fe5d5"), looks := false }, kinds := [], alts := [], laidByText := true, laidKinds := [.data], laidTests := true, laidLooks := .later }
def ExponentialFarCardSaid : Prop := Claim7.holds Tryz.pinned (.plain (OpenSpec.ofChange exponentialFarSpec)) exponentialFarCard

/-- THE TIED CARD OF 'exactreallaw14.ExponentialEnds'. -/
def exponentialEndsCard : Claim7 := { stood := { row := exponentialEndsRow, standIns := [], harness := (true, "3293f4aa690981dc15476fe766c3409c2cdc21b9c1f6741ab7e87128373fe5d5"), looks := false }, kinds := [], alts := [], laidByText := true, laidKinds := [.data], laidTests := true, laidLooks := .later }
def ExponentialEndsCardSaid : Prop := Claim7.holds Tryz.pinned (.plain (OpenSpec.ofChange exponentialEndsSpec)) exponentialEndsCard

/-- THE TIED CARD OF 'exactreallaw14.ExponentialProducts'. -/
def exponentialProductsCard : Claim7 := { stood := { row := exponentialProductsRow, standIns := [], harness := (true, "3293f4aa690981dc15476fe766c3409c2cdc21b9c1f6741ab7e87128373fe5d5"), looks := false }, kinds := [], alts := [], laidByText := true, laidKinds := [.data], laidTests := true, laidLooks := .later }
def ExponentialProductsCardSaid : Prop := Claim7.holds Tryz.pinned (.plain (OpenSpec.ofChange exponentialProductsSpec)) exponentialProductsCard

/-- THE TIED CARD OF 'exactreallaw14.ExponentialRises'. -/
def exponentialRisesCard : Claim7 := { stood := { row := exponentialRisesRow, standIns := [], harness := (true, "3293f4aa690981dc15476fe766c3409c2cdc21b9c1f6741ab7e87128373fe5d5"), looks := false }, kinds := [], alts := [], laidByText := true, laidKinds := [.data], laidTests := true, laidLooks := .later }
def ExponentialRisesCardSaid : Prop := Claim7.holds Tryz.pinned (.plain (OpenSpec.ofChange exponentialRisesSpec)) exponentialRisesCard

/-- THE TIED CARD OF 'exactreallaw14.ExponentialReduces'. -/
def exponentialReducesCard : Claim7 := { stood := { row := exponentialReducesRow, standIns := [], harness := (true, "3293f4aa690981dc15476fe766c3409c2cdc21b9c1f6741ab7e87128373fe5d5"), looks := false }, kinds := [], alts := [], laidByText := true, laidKinds := [.data], laidTests := true, laidLooks := .later }
def ExponentialReducesCardSaid : Prop := Claim7.holds Tryz.pinned (.plain (OpenSpec.ofChange exponentialReducesSpec)) exponentialReducesCard

/-- THE TIED CARD OF 'exactreallaw14.ExponentialPoints'. -/
def exponentialPointsCard : Claim7 := { stood := { row := exponentialPointsRow, standIns := [], harness := (true, "3293f4aa690981dc15476fe766c3409c2cdc21b9c1f6741ab7e87128373fe5d5"), looks := false }, kinds := [], alts := [], laidByText := true, laidKinds := [.data], laidTests := true, laidLooks := .later }
def ExponentialPointsCardSaid : Prop := Claim7.holds Tryz.pinned (.plain (OpenSpec.ofChange exponentialPointsSpec)) exponentialPointsCard

/-- THE SECOND FORM's CARD OF 'exactreallaw14.ExponentialClose'. -/
def exponentialCloseUptoCard : Claim7 := { stood := { row := exponentialCloseUptoRow, standIns := [], harness := (true, "3293f4aa690981dc15476fe766c3409c2cdc21b9c1f6741ab7e87128373fe5d5"), looks := false }, kinds := [], alts := [], laidByText := true, laidKinds := [.data], laidTests := true, laidLooks := .later }
def ExponentialCloseUptoCardSaid : Prop := Claim7.holds Tryz.pinned (.plain (OpenSpec.upto exponentialCloseSpec)) exponentialCloseUptoCard

/-- THE SECOND FORM's CARD OF 'exactreallaw14.ExponentialFar'. -/
def exponentialFarUptoCard : Claim7 := { stood := { row := exponentialFarUptoRow, standIns := [], harness := (true, "3293f4aa690981dc15476fe766c3409c2cdc21b9c1f6741ab7e87128373fe5d5"), looks := false }, kinds := [], alts := [], laidByText := true, laidKinds := [.data], laidTests := true, laidLooks := .later }
def ExponentialFarUptoCardSaid : Prop := Claim7.holds Tryz.pinned (.plain (OpenSpec.upto exponentialFarSpec)) exponentialFarUptoCard

/-- THE SECOND FORM's CARD OF 'exactreallaw14.ExponentialEnds'. -/
def exponentialEndsUptoCard : Claim7 := { stood := { row := exponentialEndsUptoRow, standIns := [], harness := (true, "3293f4aa690981dc15476fe766c3409c2cdc21b9c1f6741ab7e87128373fe5d5"), looks := false }, kinds := [], alts := [], laidByText := true, laidKinds := [.data], laidTests := true, laidLooks := .later }
def ExponentialEndsUptoCardSaid : Prop := Claim7.holds Tryz.pinned (.plain (OpenSpec.upto exponentialEndsSpec)) exponentialEndsUptoCard

/-- THE SECOND FORM's CARD OF 'exactreallaw14.ExponentialProducts'. -/
def exponentialProductsUptoCard : Claim7 := { stood := { row := exponentialProductsUptoRow, standIns := [], harness := (true, "3293f4aa690981dc15476fe766c3409c2cdc21b9c1f6741ab7e87128373fe5d5"), looks := false }, kinds := [], alts := [], laidByText := true, laidKinds := [.data], laidTests := true, laidLooks := .later }
def ExponentialProductsUptoCardSaid : Prop := Claim7.holds Tryz.pinned (.plain (OpenSpec.upto exponentialProductsSpec)) exponentialProductsUptoCard

/-- THE SECOND FORM's CARD OF 'exactreallaw14.ExponentialRises'. -/
def exponentialRisesUptoCard : Claim7 := { stood := { row := exponentialRisesUptoRow, standIns := [], harness := (true, "3293f4aa690981dc15476fe766c3409c2cdc21b9c1f6741ab7e87128373fe5d5"), looks := false }, kinds := [], alts := [], laidByText := true, laidKinds := [.data], laidTests := true, laidLooks := .later }
def ExponentialRisesUptoCardSaid : Prop := Claim7.holds Tryz.pinned (.plain (OpenSpec.upto exponentialRisesSpec)) exponentialRisesUptoCard

/-- THE SECOND FORM's CARD OF 'exactreallaw14.ExponentialReduces'. -/
def exponentialReducesUptoCard : Claim7 := { stood := { row := exponentialReducesUptoRow, standIns := [], harness := (true, "3293f4aa690981dc15476fe766c3409c2cdc21b9c1f6741ab7e87128373fe5d5"), looks := false }, kinds := [], alts := [], laidByText := true, laidKinds := [.data], laidTests := true, laidLooks := .later }
def ExponentialReducesUptoCardSaid : Prop := Claim7.holds Tryz.pinned (.plain (OpenSpec.upto exponentialReducesSpec)) exponentialReducesUptoCard

/-- THE SECOND FORM's CARD OF 'exactreallaw14.ExponentialPoints'. -/
def exponentialPointsUptoCard : Claim7 := { stood := { row := exponentialPointsUptoRow, standIns := [], harness := (true, "3293f4aa690981dc15476fe766c3409c2cdc21b9c1f6741ab7e87128373fe5d5"), looks := false }, kinds := [], alts := [], laidByText := true, laidKinds := [.data], laidTests := true, laidLooks := .later }
def ExponentialPointsUptoCardSaid : Prop := Claim7.holds Tryz.pinned (.plain (OpenSpec.upto exponentialPointsSpec)) exponentialPointsUptoCard
end Rows
end Go.Proofs.YtnnfldkllhdhjaaGreatDoor
