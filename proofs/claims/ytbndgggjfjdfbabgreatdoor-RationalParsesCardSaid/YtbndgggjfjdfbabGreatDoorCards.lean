/-
  DERIVED. GIVEN WITH THE SEED: THE CARDS: each row of YtbndgggjfjdfbabGreatDoorRows.lean that lists a variable, with what it lists TIED to the program's text (the seventh form; the later family's looks); each row that meets fmt, with fmt's text TOLD by the authors' own Lean function (tested against real Go, not proved from fmt's source: count such statements apart). THE CARD IS WHAT COUNTS. Prove the row's statement (the work); the ties are given (YtbndgggjfjdfbabGreatDoorTie.lean); close each card by the builder's one call (the guide's Derived/Test/ToyasCard.lean, 'card_holds'). Laid BY PROGRAM, IN A SANDBOX (cutbox-door.mjs). By AI agents, Wed Nov 11 2026. No macro, syntax, notation, axiom, sorry.
-/
import Derived.Test.YtbndgggjfjdfbabGreatDoorRows
import GoSem.ClaimSeven
namespace Go.Proofs.YtbndgggjfjdfbabGreatDoor
namespace Rows

/-- THE TIED CARD OF 'exactreallaw07.RationalFloors'. -/
def rationalFloorsCard : Claim7 := { stood := { row := rationalFloorsRow, standIns := [], harness := (true, "635b1d39b410d997a536b5727173f65dce6f930e6e570a9e1691a7abf6bcc9af"), looks := false }, kinds := [], alts := [], laidByText := true, laidKinds := [.data, .data, .pinned], laidTests := true, laidLooks := .later }
def RationalFloorsCardSaid : Prop := Claim7.holds Tryz.pinned (.plain (OpenSpec.ofChange rationalFloorsSpec)) rationalFloorsCard

/-- THE TIED CARD OF 'exactreallaw07.RationalDecimals'. -/
def rationalDecimalsCard : Claim7 := { stood := { row := rationalDecimalsRow, standIns := [], harness := (true, "635b1d39b410d997a536b5727173f65dce6f930e6e570a9e1691a7abf6bcc9af"), looks := false }, kinds := [], alts := [], laidByText := true, laidKinds := [.data, .data, .pinned], laidTests := true, laidLooks := .later }
def RationalDecimalsCardSaid : Prop := Claim7.holds Tryz.pinned (.plain (OpenSpec.ofChange rationalDecimalsSpec)) rationalDecimalsCard

/-- THE TIED CARD OF 'exactreallaw07.RationalParses'. -/
def rationalParsesCard : Claim7 := { stood := { row := rationalParsesRow, standIns := [], harness := (true, "635b1d39b410d997a536b5727173f65dce6f930e6e570a9e1691a7abf6bcc9af"), looks := false }, kinds := [], alts := [], laidByText := true, laidKinds := [.data, .data, .pinned], laidTests := true, laidLooks := .later }
def RationalParsesCardSaid : Prop := Claim7.holds Tryz.pinned (.plain (OpenSpec.ofChange rationalParsesSpec)) rationalParsesCard

/-- THE SECOND FORM's CARD OF 'exactreallaw07.RationalFloors'. -/
def rationalFloorsUptoCard : Claim7 := { stood := { row := rationalFloorsUptoRow, standIns := [], harness := (true, "635b1d39b410d997a536b5727173f65dce6f930e6e570a9e1691a7abf6bcc9af"), looks := false }, kinds := [], alts := [], laidByText := true, laidKinds := [.data, .data, .pinned], laidTests := true, laidLooks := .later }
def RationalFloorsUptoCardSaid : Prop := Claim7.holds Tryz.pinned (.plain (OpenSpec.upto rationalFloorsSpec)) rationalFloorsUptoCard

/-- THE SECOND FORM's CARD OF 'exactreallaw07.RationalDecimals'. -/
def rationalDecimalsUptoCard : Claim7 := { stood := { row := rationalDecimalsUptoRow, standIns := [], harness := (true, "635b1d39b410d997a536b5727173f65dce6f930e6e570a9e1691a7abf6bcc9af"), looks := false }, kinds := [], alts := [], laidByText := true, laidKinds := [.data, .data, .pinned], laidTests := true, laidLooks := .later }
def RationalDecimalsUptoCardSaid : Prop := Claim7.holds Tryz.pinned (.plain (OpenSpec.upto rationalDecimalsSpec)) rationalDecimalsUptoCard

/-- THE SECOND FORM's CARD OF 'exactreallaw07.RationalParses'. -/
def rationalParsesUptoCard : Claim7 := { stood := { row := rationalParsesUptoRow, standIns := [], harness := (true, "635b1d39b410d997a536b5727173f65dce6f930e6e570a9e1691a7abf6bcc9af"), looks := false }, kinds := [], alts := [], laidByText := true, laidKinds := [.data, .data, .pinned], laidTests := true, laidLooks := .later }
def RationalParsesUptoCardSaid : Prop := Claim7.holds Tryz.pinned (.plain (OpenSpec.upto rationalParsesSpec)) rationalParsesUptoCard
end Rows
end Go.Proofs.YtbndgggjfjdfbabGreatDoor
