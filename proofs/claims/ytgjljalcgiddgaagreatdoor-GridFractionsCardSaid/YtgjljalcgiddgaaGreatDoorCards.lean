/-
  DERIVED. GIVEN WITH THE SEED: THE CARDS: each row of YtgjljalcgiddgaaGreatDoorRows.lean that lists a variable, with what it lists TIED to the program's text (the seventh form; the later family's looks); each row that meets fmt, with fmt's text TOLD by the authors' own Lean function (tested against real Go, not proved from fmt's source: count such statements apart). THE CARD IS WHAT COUNTS. Prove the row's statement (the work); the ties are given (YtgjljalcgiddgaaGreatDoorTie.lean); close each card by the builder's one call (the guide's Derived/Test/ToyasCard.lean, 'card_holds'). Laid BY PROGRAM, IN A SANDBOX (cutbox-door.mjs). By AI agents, Wed Nov 11 2026. No macro, syntax, notation, axiom, sorry.
-/
import Derived.Test.YtgjljalcgiddgaaGreatDoorRows
import GoSem.ClaimSeven
namespace Go.Proofs.YtgjljalcgiddgaaGreatDoor
namespace Rows

/-- THE TIED CARD OF 'exactreallaw09.GridFractions'. -/
def gridFractionsCard : Claim7 := { stood := { row := gridFractionsRow, standIns := [], harness := (true, "b836ba8f3e15243d4c5b1480df088d920dc462f99ac72cdb47b8b7c56da0fe36"), looks := false }, kinds := [], alts := [], laidByText := true, laidKinds := [.data], laidTests := true, laidLooks := .later }
def GridFractionsCardSaid : Prop := Claim7.holds Tryz.pinned (.plain (OpenSpec.ofChange gridFractionsSpec)) gridFractionsCard

/-- THE SECOND FORM's CARD OF 'exactreallaw09.GridFractions'. -/
def gridFractionsUptoCard : Claim7 := { stood := { row := gridFractionsUptoRow, standIns := [], harness := (true, "b836ba8f3e15243d4c5b1480df088d920dc462f99ac72cdb47b8b7c56da0fe36"), looks := false }, kinds := [], alts := [], laidByText := true, laidKinds := [.data], laidTests := true, laidLooks := .later }
def GridFractionsUptoCardSaid : Prop := Claim7.holds Tryz.pinned (.plain (OpenSpec.upto gridFractionsSpec)) gridFractionsUptoCard
end Rows
end Go.Proofs.YtgjljalcgiddgaaGreatDoor
