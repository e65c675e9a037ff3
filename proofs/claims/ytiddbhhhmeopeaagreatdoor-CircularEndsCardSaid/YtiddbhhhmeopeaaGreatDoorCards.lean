/-
  DERIVED. GIVEN WITH THE SEED: THE CARDS: each row of YtiddbhhhmeopeaaGreatDoorRows.lean that lists a variable, with what it lists TIED to the program's text (the seventh form; the later family's looks); each row that meets fmt, with fmt's text TOLD by the authors' own Lean function (tested against real Go, not proved from fmt's source: count such statements apart). THE CARD IS WHAT COUNTS. Prove the row's statement (the work); the ties are given (YtiddbhhhmeopeaaGreatDoorTie.lean); close each card by the builder's one call (the guide's Derived/Test/ToyasCard.lean, 'card_holds'). Laid BY PROGRAM, IN A SANDBOX (cutbox-door.mjs). By AI agents, Wed Nov 11 2026. No macro, syntax, notation, axiom, sorry.
-/
import Derived.Test.YtiddbhhhmeopeaaGreatDoorRows
import GoSem.ClaimSeven
namespace Go.Proofs.YtiddbhhhmeopeaaGreatDoor
namespace Rows

/-- THE TIED CARD OF 'exactreallaw16.ArctangentClose'. -/
def arctangentCloseCard : Claim7 := { stood := { row := arctangentCloseRow, standIns := [], harness := (true, "6bc3176150571924bc0b5ad43f60b25cef4ea51b3492ca25fbcd5bdf3480b3d7"), looks := false }, kinds := [], alts := [], laidByText := true, laidKinds := [.data], laidTests := true, laidLooks := .later }
def ArctangentCloseCardSaid : Prop := Claim7.holds Tryz.pinned (.plain (OpenSpec.ofChange arctangentCloseSpec)) arctangentCloseCard

/-- THE TIED CARD OF 'exactreallaw16.ArctangentFar'. -/
def arctangentFarCard : Claim7 := { stood := { row := arctangentFarRow, standIns := [], harness := (true, "6bc3176150571924bc0b5ad43f60b25cef4ea51b3492ca25fbcd5bdf3480b3d7"), looks := false }, kinds := [], alts := [], laidByText := true, laidKinds := [.data], laidTests := true, laidLooks := .later }
def ArctangentFarCardSaid : Prop := Claim7.holds Tryz.pinned (.plain (OpenSpec.ofChange arctangentFarSpec)) arctangentFarCard

/-- THE TIED CARD OF 'exactreallaw17.CircularClose'. -/
def circularCloseCard : Claim7 := { stood := { row := circularCloseRow, standIns := [], harness := (true, "6bc3176150571924bc0b5ad43f60b25cef4ea51b3492ca25fbcd5bdf3480b3d7"), looks := false }, kinds := [], alts := [], laidByText := true, laidKinds := [.data], laidTests := true, laidLooks := .later }
def CircularCloseCardSaid : Prop := Claim7.holds Tryz.pinned (.plain (OpenSpec.ofChange circularCloseSpec)) circularCloseCard

/-- THE TIED CARD OF 'exactreallaw17.CircularFar'. -/
def circularFarCard : Claim7 := { stood := { row := circularFarRow, standIns := [], harness := (true, "6bc3176150571924bc0b5ad43f60b25cef4ea51b3492ca25fbcd5bdf3480b3d7"), looks := false }, kinds := [], alts := [], laidByText := true, laidKinds := [.data], laidTests := true, laidLooks := .later }
def CircularFarCardSaid : Prop := Claim7.holds Tryz.pinned (.plain (OpenSpec.ofChange circularFarSpec)) circularFarCard

/-- THE TIED CARD OF 'exactreallaw17.CircularTurns'. -/
def circularTurnsCard : Claim7 := { stood := { row := circularTurnsRow, standIns := [], harness := (true, "6bc3176150571924bc0b5ad43f60b25cef4ea51b3492ca25fbcd5bdf3480b3d7"), looks := false }, kinds := [], alts := [], laidByText := true, laidKinds := [.data], laidTests := true, laidLooks := .later }
def CircularTurnsCardSaid : Prop := Claim7.holds Tryz.pinned (.plain (OpenSpec.ofChange circularTurnsSpec)) circularTurnsCard

/-- THE TIED CARD OF 'exactreallaw17.CircularEnds'. -/
def circularEndsCard : Claim7 := { stood := { row := circularEndsRow, standIns := [], harness := (true, "6bc3176150571924bc0b5ad43f60b25cef4ea51b3492ca25fbcd5bdf3480b3d7"), looks := false }, kinds := [], alts := [], laidByText := true, laidKinds := [.data], laidTests := true, laidLooks := .later }
def CircularEndsCardSaid : Prop := Claim7.holds Tryz.pinned (.plain (OpenSpec.ofChange circularEndsSpec)) circularEndsCard

/-- THE TIED CARD OF 'exactreallaw17.CircularSquares'. -/
def circularSquaresCard : Claim7 := { stood := { row := circularSquaresRow, standIns := [], harness := (true, "6bc3176150571924bc0b5ad43f60b25cef4ea51b3492ca25fbcd5bdf3480b3d7"), looks := false }, kinds := [], alts := [], laidByText := true, laidKinds := [.data], laidTests := true, laidLooks := .later }
def CircularSquaresCardSaid : Prop := Claim7.holds Tryz.pinned (.plain (OpenSpec.ofChange circularSquaresSpec)) circularSquaresCard

/-- THE TIED CARD OF 'exactreallaw17.CircularDoubles'. -/
def circularDoublesCard : Claim7 := { stood := { row := circularDoublesRow, standIns := [], harness := (true, "6bc3176150571924bc0b5ad43f60b25cef4ea51b3492ca25fbcd5bdf3480b3d7"), looks := false }, kinds := [], alts := [], laidByText := true, laidKinds := [.data], laidTests := true, laidLooks := .later }
def CircularDoublesCardSaid : Prop := Claim7.holds Tryz.pinned (.plain (OpenSpec.ofChange circularDoublesSpec)) circularDoublesCard

/-- THE TIED CARD OF 'exactreallaw17.CircularQuarters'. -/
def circularQuartersCard : Claim7 := { stood := { row := circularQuartersRow, standIns := [], harness := (true, "6bc3176150571924bc0b5ad43f60b25cef4ea51b3492ca25fbcd5bdf3480b3d7"), looks := false }, kinds := [], alts := [], laidByText := true, laidKinds := [.data], laidTests := true, laidLooks := .later }
def CircularQuartersCardSaid : Prop := Claim7.holds Tryz.pinned (.plain (OpenSpec.ofChange circularQuartersSpec)) circularQuartersCard

/-- THE SECOND FORM's CARD OF 'exactreallaw16.ArctangentClose'. -/
def arctangentCloseUptoCard : Claim7 := { stood := { row := arctangentCloseUptoRow, standIns := [], harness := (true, "6bc3176150571924bc0b5ad43f60b25cef4ea51b3492ca25fbcd5bdf3480b3d7"), looks := false }, kinds := [], alts := [], laidByText := true, laidKinds := [.data], laidTests := true, laidLooks := .later }
def ArctangentCloseUptoCardSaid : Prop := Claim7.holds Tryz.pinned (.plain (OpenSpec.upto arctangentCloseSpec)) arctangentCloseUptoCard

/-- THE SECOND FORM's CARD OF 'exactreallaw16.ArctangentFar'. -/
def arctangentFarUptoCard : Claim7 := { stood := { row := arctangentFarUptoRow, standIns := [], harness := (true, "6bc3176150571924bc0b5ad43f60b25cef4ea51b3492ca25fbcd5bdf3480b3d7"), looks := false }, kinds := [], alts := [], laidByText := true, laidKinds := [.data], laidTests := true, laidLooks := .later }
def ArctangentFarUptoCardSaid : Prop := Claim7.holds Tryz.pinned (.plain (OpenSpec.upto arctangentFarSpec)) arctangentFarUptoCard

/-- THE SECOND FORM's CARD OF 'exactreallaw17.CircularClose'. -/
def circularCloseUptoCard : Claim7 := { stood := { row := circularCloseUptoRow, standIns := [], harness := (true, "6bc3176150571924bc0b5ad43f60b25cef4ea51b3492ca25fbcd5bdf3480b3d7"), looks := false }, kinds := [], alts := [], laidByText := true, laidKinds := [.data], laidTests := true, laidLooks := .later }
def CircularCloseUptoCardSaid : Prop := Claim7.holds Tryz.pinned (.plain (OpenSpec.upto circularCloseSpec)) circularCloseUptoCard

/-- THE SECOND FORM's CARD OF 'exactreallaw17.CircularFar'. -/
def circularFarUptoCard : Claim7 := { stood := { row := circularFarUptoRow, standIns := [], harness := (true, "6bc3176150571924bc0b5ad43f60b25cef4ea51b3492ca25fbcd5bdf3480b3d7"), looks := false }, kinds := [], alts := [], laidByText := true, laidKinds := [.data], laidTests := true, laidLooks := .later }
def CircularFarUptoCardSaid : Prop := Claim7.holds Tryz.pinned (.plain (OpenSpec.upto circularFarSpec)) circularFarUptoCard

/-- THE SECOND FORM's CARD OF 'exactreallaw17.CircularTurns'. -/
def circularTurnsUptoCard : Claim7 := { stood := { row := circularTurnsUptoRow, standIns := [], harness := (true, "6bc3176150571924bc0b5ad43f60b25cef4ea51b3492ca25fbcd5bdf3480b3d7"), looks := false }, kinds := [], alts := [], laidByText := true, laidKinds := [.data], laidTests := true, laidLooks := .later }
def CircularTurnsUptoCardSaid : Prop := Claim7.holds Tryz.pinned (.plain (OpenSpec.upto circularTurnsSpec)) circularTurnsUptoCard

/-- THE SECOND FORM's CARD OF 'exactreallaw17.CircularEnds'. -/
def circularEndsUptoCard : Claim7 := { stood := { row := circularEndsUptoRow, standIns := [], harness := (true, "6bc3176150571924bc0b5ad43f60b25cef4ea51b3492ca25fbcd5bdf3480b3d7"), looks := false }, kinds := [], alts := [], laidByText := true, laidKinds := [.data], laidTests := true, laidLooks := .later }
def CircularEndsUptoCardSaid : Prop := Claim7.holds Tryz.pinned (.plain (OpenSpec.upto circularEndsSpec)) circularEndsUptoCard

/-- THE SECOND FORM's CARD OF 'exactreallaw17.CircularSquares'. -/
def circularSquaresUptoCard : Claim7 := { stood := { row := circularSquaresUptoRow, standIns := [], harness := (true, "6bc3176150571924bc0b5ad43f60b25cef4ea51b3492ca25fbcd5bdf3480b3d7"), looks := false }, kinds := [], alts := [], laidByText := true, laidKinds := [.data], laidTests := true, laidLooks := .later }
def CircularSquaresUptoCardSaid : Prop := Claim7.holds Tryz.pinned (.plain (OpenSpec.upto circularSquaresSpec)) circularSquaresUptoCard

/-- THE SECOND FORM's CARD OF 'exactreallaw17.CircularDoubles'. -/
def circularDoublesUptoCard : Claim7 := { stood := { row := circularDoublesUptoRow, standIns := [], harness := (true, "6bc3176150571924bc0b5ad43f60b25cef4ea51b3492ca25fbcd5bdf3480b3d7"), looks := false }, kinds := [], alts := [], laidByText := true, laidKinds := [.data], laidTests := true, laidLooks := .later }
def CircularDoublesUptoCardSaid : Prop := Claim7.holds Tryz.pinned (.plain (OpenSpec.upto circularDoublesSpec)) circularDoublesUptoCard

/-- THE SECOND FORM's CARD OF 'exactreallaw17.CircularQuarters'. -/
def circularQuartersUptoCard : Claim7 := { stood := { row := circularQuartersUptoRow, standIns := [], harness := (true, "6bc3176150571924bc0b5ad43f60b25cef4ea51b3492ca25fbcd5bdf3480b3d7"), looks := false }, kinds := [], alts := [], laidByText := true, laidKinds := [.data], laidTests := true, laidLooks := .later }
def CircularQuartersUptoCardSaid : Prop := Claim7.holds Tryz.pinned (.plain (OpenSpec.upto circularQuartersSpec)) circularQuartersUptoCard
end Rows
end Go.Proofs.YtiddbhhhmeopeaaGreatDoor
