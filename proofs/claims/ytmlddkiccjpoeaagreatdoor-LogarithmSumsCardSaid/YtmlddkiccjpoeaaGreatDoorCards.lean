/-
  DERIVED. GIVEN WITH THE SEED: THE CARDS: each row of YtmlddkiccjpoeaaGreatDoorRows.lean that lists a variable, with what it lists TIED to the program's text (the seventh form; the later family's looks); each row that meets fmt, with fmt's text TOLD by the authors' own Lean function (tested against real Go, not proved from fmt's source: count such statements apart). THE CARD IS WHAT COUNTS. Prove the row's statement (the work); the ties are given (YtmlddkiccjpoeaaGreatDoorTie.lean); close each card by the builder's one call (the guide's Derived/Test/ToyasCard.lean, 'card_holds'). Laid BY PROGRAM, IN A SANDBOX (cutbox-door.mjs). By AI agents, Wed Nov 11 2026. No macro, syntax, notation, axiom, sorry.
-/
import Derived.Test.YtmlddkiccjpoeaaGreatDoorRows
import GoSem.ClaimSeven
namespace Go.Proofs.YtmlddkiccjpoeaaGreatDoor
namespace Rows

/-- THE TIED CARD OF 'exactreallaw15.LogarithmClose'. -/
def logarithmCloseCard : Claim7 := { stood := { row := logarithmCloseRow, standIns := [], harness := (true, "b13c25ae5fff1e9b4e08747efbab7d87c4067721028d2b391be5ef53a6f7e3a3"), looks := false }, kinds := [], alts := [], laidByText := true, laidKinds := [.data], laidTests := true, laidLooks := .later }
def LogarithmCloseCardSaid : Prop := Claim7.holds Tryz.pinned (.plain (OpenSpec.ofChange logarithmCloseSpec)) logarithmCloseCard

/-- THE TIED CARD OF 'exactreallaw15.LogarithmFar'. -/
def logarithmFarCard : Claim7 := { stood := { row := logarithmFarRow, standIns := [], harness := (true, "b13c25ae5fff1e9b4e08747efbab7d87c4067721028d2b391be5ef53a6f7e3a3"), looks := false }, kinds := [], alts := [], laidByText := true, laidKinds := [.data], laidTests := true, laidLooks := .later }
def LogarithmFarCardSaid : Prop := Claim7.holds Tryz.pinned (.plain (OpenSpec.ofChange logarithmFarSpec)) logarithmFarCard

/-- THE TIED CARD OF 'exactreallaw15.LogarithmEnds'. -/
def logarithmEndsCard : Claim7 := { stood := { row := logarithmEndsRow, standIns := [], harness := (true, "b13c25ae5fff1e9b4e08747efbab7d87c4067721028d2b391be5ef53a6f7e3a3"), looks := false }, kinds := [], alts := [], laidByText := true, laidKinds := [.data], laidTests := true, laidLooks := .later }
def LogarithmEndsCardSaid : Prop := Claim7.holds Tryz.pinned (.plain (OpenSpec.ofChange logarithmEndsSpec)) logarithmEndsCard

/-- THE TIED CARD OF 'exactreallaw15.LogarithmInverts'. -/
def logarithmInvertsCard : Claim7 := { stood := { row := logarithmInvertsRow, standIns := [], harness := (true, "b13c25ae5fff1e9b4e08747efbab7d87c4067721028d2b391be5ef53a6f7e3a3"), looks := false }, kinds := [], alts := [], laidByText := true, laidKinds := [.data], laidTests := true, laidLooks := .later }
def LogarithmInvertsCardSaid : Prop := Claim7.holds Tryz.pinned (.plain (OpenSpec.ofChange logarithmInvertsSpec)) logarithmInvertsCard

/-- THE TIED CARD OF 'exactreallaw15.LogarithmSums'. -/
def logarithmSumsCard : Claim7 := { stood := { row := logarithmSumsRow, standIns := [], harness := (true, "b13c25ae5fff1e9b4e08747efbab7d87c4067721028d2b391be5ef53a6f7e3a3"), looks := false }, kinds := [], alts := [], laidByText := true, laidKinds := [.data], laidTests := true, laidLooks := .later }
def LogarithmSumsCardSaid : Prop := Claim7.holds Tryz.pinned (.plain (OpenSpec.ofChange logarithmSumsSpec)) logarithmSumsCard

/-- THE TIED CARD OF 'exactreallaw15.LogarithmSplits'. -/
def logarithmSplitsCard : Claim7 := { stood := { row := logarithmSplitsRow, standIns := [], harness := (true, "b13c25ae5fff1e9b4e08747efbab7d87c4067721028d2b391be5ef53a6f7e3a3"), looks := false }, kinds := [], alts := [], laidByText := true, laidKinds := [.data], laidTests := true, laidLooks := .later }
def LogarithmSplitsCardSaid : Prop := Claim7.holds Tryz.pinned (.plain (OpenSpec.ofChange logarithmSplitsSpec)) logarithmSplitsCard

/-- THE SECOND FORM's CARD OF 'exactreallaw15.LogarithmClose'. -/
def logarithmCloseUptoCard : Claim7 := { stood := { row := logarithmCloseUptoRow, standIns := [], harness := (true, "b13c25ae5fff1e9b4e08747efbab7d87c4067721028d2b391be5ef53a6f7e3a3"), looks := false }, kinds := [], alts := [], laidByText := true, laidKinds := [.data], laidTests := true, laidLooks := .later }
def LogarithmCloseUptoCardSaid : Prop := Claim7.holds Tryz.pinned (.plain (OpenSpec.upto logarithmCloseSpec)) logarithmCloseUptoCard

/-- THE SECOND FORM's CARD OF 'exactreallaw15.LogarithmFar'. -/
def logarithmFarUptoCard : Claim7 := { stood := { row := logarithmFarUptoRow, standIns := [], harness := (true, "b13c25ae5fff1e9b4e08747efbab7d87c4067721028d2b391be5ef53a6f7e3a3"), looks := false }, kinds := [], alts := [], laidByText := true, laidKinds := [.data], laidTests := true, laidLooks := .later }
def LogarithmFarUptoCardSaid : Prop := Claim7.holds Tryz.pinned (.plain (OpenSpec.upto logarithmFarSpec)) logarithmFarUptoCard

/-- THE SECOND FORM's CARD OF 'exactreallaw15.LogarithmEnds'. -/
def logarithmEndsUptoCard : Claim7 := { stood := { row := logarithmEndsUptoRow, standIns := [], harness := (true, "b13c25ae5fff1e9b4e08747efbab7d87c4067721028d2b391be5ef53a6f7e3a3"), looks := false }, kinds := [], alts := [], laidByText := true, laidKinds := [.data], laidTests := true, laidLooks := .later }
def LogarithmEndsUptoCardSaid : Prop := Claim7.holds Tryz.pinned (.plain (OpenSpec.upto logarithmEndsSpec)) logarithmEndsUptoCard

/-- THE SECOND FORM's CARD OF 'exactreallaw15.LogarithmInverts'. -/
def logarithmInvertsUptoCard : Claim7 := { stood := { row := logarithmInvertsUptoRow, standIns := [], harness := (true, "b13c25ae5fff1e9b4e08747efbab7d87c4067721028d2b391be5ef53a6f7e3a3"), looks := false }, kinds := [], alts := [], laidByText := true, laidKinds := [.data], laidTests := true, laidLooks := .later }
def LogarithmInvertsUptoCardSaid : Prop := Claim7.holds Tryz.pinned (.plain (OpenSpec.upto logarithmInvertsSpec)) logarithmInvertsUptoCard

/-- THE SECOND FORM's CARD OF 'exactreallaw15.LogarithmSums'. -/
def logarithmSumsUptoCard : Claim7 := { stood := { row := logarithmSumsUptoRow, standIns := [], harness := (true, "b13c25ae5fff1e9b4e08747efbab7d87c4067721028d2b391be5ef53a6f7e3a3"), looks := false }, kinds := [], alts := [], laidByText := true, laidKinds := [.data], laidTests := true, laidLooks := .later }
def LogarithmSumsUptoCardSaid : Prop := Claim7.holds Tryz.pinned (.plain (OpenSpec.upto logarithmSumsSpec)) logarithmSumsUptoCard

/-- THE SECOND FORM's CARD OF 'exactreallaw15.LogarithmSplits'. -/
def logarithmSplitsUptoCard : Claim7 := { stood := { row := logarithmSplitsUptoRow, standIns := [], harness := (true, "b13c25ae5fff1e9b4e08747efbab7d87c4067721028d2b391be5ef53a6f7e3a3"), looks := false }, kinds := [], alts := [], laidByText := true, laidKinds := [.data], laidTests := true, laidLooks := .later }
def LogarithmSplitsUptoCardSaid : Prop := Claim7.holds Tryz.pinned (.plain (OpenSpec.upto logarithmSplitsSpec)) logarithmSplitsUptoCard
end Rows
end Go.Proofs.YtmlddkiccjpoeaaGreatDoor
