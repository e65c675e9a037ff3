/-
  DERIVED. GIVEN WITH THE SEED: THE CARDS: each row of YtoobcngbnjeddaaGreatDoorRows.lean that lists a variable, with what it lists TIED to the program's text (the seventh form; the later family's looks); each row that meets fmt, with fmt's text TOLD by the authors' own Lean function (tested against real Go, not proved from fmt's source: count such statements apart). THE CARD IS WHAT COUNTS. Prove the row's statement (the work); the ties are given (YtoobcngbnjeddaaGreatDoorTie.lean); close each card by the builder's one call (the guide's Derived/Test/ToyasCard.lean, 'card_holds'). Laid BY PROGRAM, IN A SANDBOX (cutbox-door.mjs). By AI agents, Wed Nov 11 2026. No macro, syntax, notation, axiom, sorry.
-/
import Derived.Test.YtoobcngbnjeddaaGreatDoorRows
import GoSem.ClaimSeven
namespace Go.Proofs.YtoobcngbnjeddaaGreatDoor
namespace Rows

/-- THE TIED CARD OF 'exactreallaw11.ArithExact'. -/
def arithExactCard : Claim7 := { stood := { row := arithExactRow, standIns := [], harness := (true, "c2ab790ab1d526ae8b32a29f7fdab6d1933fc036b4d6dd766b84ae3d1be0b1b3"), looks := false }, kinds := [], alts := [], laidByText := true, laidKinds := [.data], laidTests := true, laidLooks := .later }
def ArithExactCardSaid : Prop := Claim7.holds Tryz.pinned (.plain (OpenSpec.ofChange arithExactSpec)) arithExactCard

/-- THE TIED CARD OF 'exactreallaw11.ArithDivides'. -/
def arithDividesCard : Claim7 := { stood := { row := arithDividesRow, standIns := [], harness := (true, "c2ab790ab1d526ae8b32a29f7fdab6d1933fc036b4d6dd766b84ae3d1be0b1b3"), looks := false }, kinds := [], alts := [], laidByText := true, laidKinds := [.data], laidTests := true, laidLooks := .later }
def ArithDividesCardSaid : Prop := Claim7.holds Tryz.pinned (.plain (OpenSpec.ofChange arithDividesSpec)) arithDividesCard

/-- THE TIED CARD OF 'exactreallaw11.ArithConst'. -/
def arithConstCard : Claim7 := { stood := { row := arithConstRow, standIns := [], harness := (true, "c2ab790ab1d526ae8b32a29f7fdab6d1933fc036b4d6dd766b84ae3d1be0b1b3"), looks := false }, kinds := [], alts := [], laidByText := true, laidKinds := [.data], laidTests := true, laidLooks := .later }
def ArithConstCardSaid : Prop := Claim7.holds Tryz.pinned (.plain (OpenSpec.ofChange arithConstSpec)) arithConstCard

/-- THE TIED CARD OF 'exactreallaw11.ArithContains'. -/
def arithContainsCard : Claim7 := { stood := { row := arithContainsRow, standIns := [], harness := (true, "c2ab790ab1d526ae8b32a29f7fdab6d1933fc036b4d6dd766b84ae3d1be0b1b3"), looks := false }, kinds := [], alts := [], laidByText := true, laidKinds := [.data], laidTests := true, laidLooks := .later }
def ArithContainsCardSaid : Prop := Claim7.holds Tryz.pinned (.plain (OpenSpec.ofChange arithContainsSpec)) arithContainsCard

/-- THE TIED CARD OF 'exactreallaw11.ArithShrinks'. -/
def arithShrinksCard : Claim7 := { stood := { row := arithShrinksRow, standIns := [], harness := (true, "c2ab790ab1d526ae8b32a29f7fdab6d1933fc036b4d6dd766b84ae3d1be0b1b3"), looks := false }, kinds := [], alts := [], laidByText := true, laidKinds := [.data], laidTests := true, laidLooks := .later }
def ArithShrinksCardSaid : Prop := Claim7.holds Tryz.pinned (.plain (OpenSpec.ofChange arithShrinksSpec)) arithShrinksCard

/-- THE TIED CARD OF 'exactreallaw11.ArithLarge'. -/
def arithLargeCard : Claim7 := { stood := { row := arithLargeRow, standIns := [], harness := (true, "c2ab790ab1d526ae8b32a29f7fdab6d1933fc036b4d6dd766b84ae3d1be0b1b3"), looks := false }, kinds := [], alts := [], laidByText := true, laidKinds := [.data], laidTests := true, laidLooks := .later }
def ArithLargeCardSaid : Prop := Claim7.holds Tryz.pinned (.plain (OpenSpec.ofChange arithLargeSpec)) arithLargeCard

/-- THE SECOND FORM's CARD OF 'exactreallaw11.ArithExact'. -/
def arithExactUptoCard : Claim7 := { stood := { row := arithExactUptoRow, standIns := [], harness := (true, "c2ab790ab1d526ae8b32a29f7fdab6d1933fc036b4d6dd766b84ae3d1be0b1b3"), looks := false }, kinds := [], alts := [], laidByText := true, laidKinds := [.data], laidTests := true, laidLooks := .later }
def ArithExactUptoCardSaid : Prop := Claim7.holds Tryz.pinned (.plain (OpenSpec.upto arithExactSpec)) arithExactUptoCard

/-- THE SECOND FORM's CARD OF 'exactreallaw11.ArithDivides'. -/
def arithDividesUptoCard : Claim7 := { stood := { row := arithDividesUptoRow, standIns := [], harness := (true, "c2ab790ab1d526ae8b32a29f7fdab6d1933fc036b4d6dd766b84ae3d1be0b1b3"), looks := false }, kinds := [], alts := [], laidByText := true, laidKinds := [.data], laidTests := true, laidLooks := .later }
def ArithDividesUptoCardSaid : Prop := Claim7.holds Tryz.pinned (.plain (OpenSpec.upto arithDividesSpec)) arithDividesUptoCard

/-- THE SECOND FORM's CARD OF 'exactreallaw11.ArithConst'. -/
def arithConstUptoCard : Claim7 := { stood := { row := arithConstUptoRow, standIns := [], harness := (true, "c2ab790ab1d526ae8b32a29f7fdab6d1933fc036b4d6dd766b84ae3d1be0b1b3"), looks := false }, kinds := [], alts := [], laidByText := true, laidKinds := [.data], laidTests := true, laidLooks := .later }
def ArithConstUptoCardSaid : Prop := Claim7.holds Tryz.pinned (.plain (OpenSpec.upto arithConstSpec)) arithConstUptoCard

/-- THE SECOND FORM's CARD OF 'exactreallaw11.ArithContains'. -/
def arithContainsUptoCard : Claim7 := { stood := { row := arithContainsUptoRow, standIns := [], harness := (true, "c2ab790ab1d526ae8b32a29f7fdab6d1933fc036b4d6dd766b84ae3d1be0b1b3"), looks := false }, kinds := [], alts := [], laidByText := true, laidKinds := [.data], laidTests := true, laidLooks := .later }
def ArithContainsUptoCardSaid : Prop := Claim7.holds Tryz.pinned (.plain (OpenSpec.upto arithContainsSpec)) arithContainsUptoCard

/-- THE SECOND FORM's CARD OF 'exactreallaw11.ArithShrinks'. -/
def arithShrinksUptoCard : Claim7 := { stood := { row := arithShrinksUptoRow, standIns := [], harness := (true, "c2ab790ab1d526ae8b32a29f7fdab6d1933fc036b4d6dd766b84ae3d1be0b1b3"), looks := false }, kinds := [], alts := [], laidByText := true, laidKinds := [.data], laidTests := true, laidLooks := .later }
def ArithShrinksUptoCardSaid : Prop := Claim7.holds Tryz.pinned (.plain (OpenSpec.upto arithShrinksSpec)) arithShrinksUptoCard

/-- THE SECOND FORM's CARD OF 'exactreallaw11.ArithLarge'. -/
def arithLargeUptoCard : Claim7 := { stood := { row := arithLargeUptoRow, standIns := [], harness := (true, "c2ab790ab1d526ae8b32a29f7fdab6d1933fc036b4d6dd766b84ae3d1be0b1b3"), looks := false }, kinds := [], alts := [], laidByText := true, laidKinds := [.data], laidTests := true, laidLooks := .later }
def ArithLargeUptoCardSaid : Prop := Claim7.holds Tryz.pinned (.plain (OpenSpec.upto arithLargeSpec)) arithLargeUptoCard
end Rows
end Go.Proofs.YtoobcngbnjeddaaGreatDoor
