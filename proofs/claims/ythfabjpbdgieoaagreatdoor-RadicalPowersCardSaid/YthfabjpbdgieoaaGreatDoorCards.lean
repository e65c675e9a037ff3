/-
  DERIVED. GIVEN WITH THE SEED: THE CARDS: each row of YthfabjpbdgieoaaGreatDoorRows.lean that lists a variable, with what it lists TIED to the program's text (the seventh form; the later family's looks); each row that meets fmt, with fmt's text TOLD by the authors' own Lean function (tested against real Go, not proved from fmt's source: count such statements apart). THE CARD IS WHAT COUNTS. Prove the row's statement (the work); the ties are given (YthfabjpbdgieoaaGreatDoorTie.lean); close each card by the builder's one call (the guide's Derived/Test/ToyasCard.lean, 'card_holds'). Laid BY PROGRAM, IN A SANDBOX (cutbox-door.mjs). By AI agents, Wed Nov 11 2026. No macro, syntax, notation, axiom, sorry.
-/
import Derived.Test.YthfabjpbdgieoaaGreatDoorRows
import GoSem.ClaimSeven
namespace Go.Proofs.YthfabjpbdgieoaaGreatDoor
namespace Rows

/-- THE TIED CARD OF 'exactreallaw12.RadicalRoots'. -/
def radicalRootsCard : Claim7 := { stood := { row := radicalRootsRow, standIns := [], harness := (true, "38d0c9389afd9d51f91d502640f3fb4934cdd764c578ae02c23a5d2e71bba458"), looks := false }, kinds := [], alts := [], laidByText := true, laidKinds := [.data], laidTests := true, laidLooks := .later }
def RadicalRootsCardSaid : Prop := Claim7.holds Tryz.pinned (.plain (OpenSpec.ofChange radicalRootsSpec)) radicalRootsCard

/-- THE TIED CARD OF 'exactreallaw12.RadicalBounds'. -/
def radicalBoundsCard : Claim7 := { stood := { row := radicalBoundsRow, standIns := [], harness := (true, "38d0c9389afd9d51f91d502640f3fb4934cdd764c578ae02c23a5d2e71bba458"), looks := false }, kinds := [], alts := [], laidByText := true, laidKinds := [.data], laidTests := true, laidLooks := .later }
def RadicalBoundsCardSaid : Prop := Claim7.holds Tryz.pinned (.plain (OpenSpec.ofChange radicalBoundsSpec)) radicalBoundsCard

/-- THE TIED CARD OF 'exactreallaw12.RadicalPowers'. -/
def radicalPowersCard : Claim7 := { stood := { row := radicalPowersRow, standIns := [], harness := (true, "38d0c9389afd9d51f91d502640f3fb4934cdd764c578ae02c23a5d2e71bba458"), looks := false }, kinds := [], alts := [], laidByText := true, laidKinds := [.data], laidTests := true, laidLooks := .later }
def RadicalPowersCardSaid : Prop := Claim7.holds Tryz.pinned (.plain (OpenSpec.ofChange radicalPowersSpec)) radicalPowersCard

/-- THE TIED CARD OF 'exactreallaw12.RadicalPoints'. -/
def radicalPointsCard : Claim7 := { stood := { row := radicalPointsRow, standIns := [], harness := (true, "38d0c9389afd9d51f91d502640f3fb4934cdd764c578ae02c23a5d2e71bba458"), looks := false }, kinds := [], alts := [], laidByText := true, laidKinds := [.data], laidTests := true, laidLooks := .later }
def RadicalPointsCardSaid : Prop := Claim7.holds Tryz.pinned (.plain (OpenSpec.ofChange radicalPointsSpec)) radicalPointsCard

/-- THE TIED CARD OF 'exactreallaw12.RadicalProducts'. -/
def radicalProductsCard : Claim7 := { stood := { row := radicalProductsRow, standIns := [], harness := (true, "38d0c9389afd9d51f91d502640f3fb4934cdd764c578ae02c23a5d2e71bba458"), looks := false }, kinds := [], alts := [], laidByText := true, laidKinds := [.data], laidTests := true, laidLooks := .later }
def RadicalProductsCardSaid : Prop := Claim7.holds Tryz.pinned (.plain (OpenSpec.ofChange radicalProductsSpec)) radicalProductsCard

/-- THE SECOND FORM's CARD OF 'exactreallaw12.RadicalRoots'. -/
def radicalRootsUptoCard : Claim7 := { stood := { row := radicalRootsUptoRow, standIns := [], harness := (true, "38d0c9389afd9d51f91d502640f3fb4934cdd764c578ae02c23a5d2e71bba458"), looks := false }, kinds := [], alts := [], laidByText := true, laidKinds := [.data], laidTests := true, laidLooks := .later }
def RadicalRootsUptoCardSaid : Prop := Claim7.holds Tryz.pinned (.plain (OpenSpec.upto radicalRootsSpec)) radicalRootsUptoCard

/-- THE SECOND FORM's CARD OF 'exactreallaw12.RadicalBounds'. -/
def radicalBoundsUptoCard : Claim7 := { stood := { row := radicalBoundsUptoRow, standIns := [], harness := (true, "38d0c9389afd9d51f91d502640f3fb4934cdd764c578ae02c23a5d2e71bba458"), looks := false }, kinds := [], alts := [], laidByText := true, laidKinds := [.data], laidTests := true, laidLooks := .later }
def RadicalBoundsUptoCardSaid : Prop := Claim7.holds Tryz.pinned (.plain (OpenSpec.upto radicalBoundsSpec)) radicalBoundsUptoCard

/-- THE SECOND FORM's CARD OF 'exactreallaw12.RadicalPowers'. -/
def radicalPowersUptoCard : Claim7 := { stood := { row := radicalPowersUptoRow, standIns := [], harness := (true, "38d0c9389afd9d51f91d502640f3fb4934cdd764c578ae02c23a5d2e71bba458"), looks := false }, kinds := [], alts := [], laidByText := true, laidKinds := [.data], laidTests := true, laidLooks := .later }
def RadicalPowersUptoCardSaid : Prop := Claim7.holds Tryz.pinned (.plain (OpenSpec.upto radicalPowersSpec)) radicalPowersUptoCard

/-- THE SECOND FORM's CARD OF 'exactreallaw12.RadicalPoints'. -/
def radicalPointsUptoCard : Claim7 := { stood := { row := radicalPointsUptoRow, standIns := [], harness := (true, "38d0c9389afd9d51f91d502640f3fb4934cdd764c578ae02c23a5d2e71bba458"), looks := false }, kinds := [], alts := [], laidByText := true, laidKinds := [.data], laidTests := true, laidLooks := .later }
def RadicalPointsUptoCardSaid : Prop := Claim7.holds Tryz.pinned (.plain (OpenSpec.upto radicalPointsSpec)) radicalPointsUptoCard

/-- THE SECOND FORM's CARD OF 'exactreallaw12.RadicalProducts'. -/
def radicalProductsUptoCard : Claim7 := { stood := { row := radicalProductsUptoRow, standIns := [], harness := (true, "38d0c9389afd9d51f91d502640f3fb4934cdd764c578ae02c23a5d2e71bba458"), looks := false }, kinds := [], alts := [], laidByText := true, laidKinds := [.data], laidTests := true, laidLooks := .later }
def RadicalProductsUptoCardSaid : Prop := Claim7.holds Tryz.pinned (.plain (OpenSpec.upto radicalProductsSpec)) radicalProductsUptoCard
end Rows
end Go.Proofs.YthfabjpbdgieoaaGreatDoor
