/-
  DERIVED. GIVEN WITH THE SEED: THE CARDS: each row of YtgjljalcgiddgaaDoorRows.lean that lists a variable, with what it lists TIED to the program's text (the seventh form; the later family's looks); each row that meets fmt, with fmt's text TOLD by the authors' own Lean function (tested against real Go, not proved from fmt's source: count such statements apart). THE CARD IS WHAT COUNTS. Prove the row's statement (the work); the ties are given (YtgjljalcgiddgaaDoorTie.lean); close each card by the builder's one call (the guide's Derived/Test/ToyasCard.lean, 'card_holds'). Laid BY PROGRAM, IN A SANDBOX (cutbox-door.mjs). By AI agents, Wed Nov 11 2026. No macro, syntax, notation, axiom, sorry.
-/
import Derived.Test.YtgjljalcgiddgaaDoorRows
import GoSem.ClaimSeven
namespace Go.Proofs.YtgjljalcgiddgaaDoor
namespace Rows

/-- THE TIED CARD OF 'exactreallaw09.GridRounds'. -/
def gridRoundsCard : Claim7 := { stood := { row := gridRoundsRow, standIns := [], harness := (true, "d6266cbc5a3360d5fc4f277695a2692bb8a993f07232a23648d2cbb78ee978b7"), looks := false }, kinds := [], alts := [], laidByText := true, laidKinds := [.data], laidTests := true, laidLooks := .later }
def GridRoundsCardSaid : Prop := Claim7.holds Tryd.pinned (.plain (OpenSpec.ofChange gridRoundsSpec)) gridRoundsCard

/-- THE TIED CARD OF 'exactreallaw09.GridBounds'. -/
def gridBoundsCard : Claim7 := { stood := { row := gridBoundsRow, standIns := [], harness := (true, "d6266cbc5a3360d5fc4f277695a2692bb8a993f07232a23648d2cbb78ee978b7"), looks := false }, kinds := [], alts := [], laidByText := true, laidKinds := [.data], laidTests := true, laidLooks := .later }
def GridBoundsCardSaid : Prop := Claim7.holds Tryd.pinned (.plain (OpenSpec.ofChange gridBoundsSpec)) gridBoundsCard

/-- THE TIED CARD OF 'exactreallaw09.GridOn'. -/
def gridOnCard : Claim7 := { stood := { row := gridOnRow, standIns := [], harness := (true, "d6266cbc5a3360d5fc4f277695a2692bb8a993f07232a23648d2cbb78ee978b7"), looks := false }, kinds := [], alts := [], laidByText := true, laidKinds := [.data], laidTests := true, laidLooks := .later }
def GridOnCardSaid : Prop := Claim7.holds Tryd.pinned (.plain (OpenSpec.ofChange gridOnSpec)) gridOnCard

/-- THE TIED CARD OF 'exactreallaw09.GridTwice'. -/
def gridTwiceCard : Claim7 := { stood := { row := gridTwiceRow, standIns := [], harness := (true, "d6266cbc5a3360d5fc4f277695a2692bb8a993f07232a23648d2cbb78ee978b7"), looks := false }, kinds := [], alts := [], laidByText := true, laidKinds := [.data], laidTests := true, laidLooks := .later }
def GridTwiceCardSaid : Prop := Claim7.holds Tryd.pinned (.plain (OpenSpec.ofChange gridTwiceSpec)) gridTwiceCard

/-- THE SECOND FORM's CARD OF 'exactreallaw09.GridRounds'. -/
def gridRoundsUptoCard : Claim7 := { stood := { row := gridRoundsUptoRow, standIns := [], harness := (true, "d6266cbc5a3360d5fc4f277695a2692bb8a993f07232a23648d2cbb78ee978b7"), looks := false }, kinds := [], alts := [], laidByText := true, laidKinds := [.data], laidTests := true, laidLooks := .later }
def GridRoundsUptoCardSaid : Prop := Claim7.holds Tryd.pinned (.plain (OpenSpec.upto gridRoundsSpec)) gridRoundsUptoCard

/-- THE SECOND FORM's CARD OF 'exactreallaw09.GridBounds'. -/
def gridBoundsUptoCard : Claim7 := { stood := { row := gridBoundsUptoRow, standIns := [], harness := (true, "d6266cbc5a3360d5fc4f277695a2692bb8a993f07232a23648d2cbb78ee978b7"), looks := false }, kinds := [], alts := [], laidByText := true, laidKinds := [.data], laidTests := true, laidLooks := .later }
def GridBoundsUptoCardSaid : Prop := Claim7.holds Tryd.pinned (.plain (OpenSpec.upto gridBoundsSpec)) gridBoundsUptoCard

/-- THE SECOND FORM's CARD OF 'exactreallaw09.GridOn'. -/
def gridOnUptoCard : Claim7 := { stood := { row := gridOnUptoRow, standIns := [], harness := (true, "d6266cbc5a3360d5fc4f277695a2692bb8a993f07232a23648d2cbb78ee978b7"), looks := false }, kinds := [], alts := [], laidByText := true, laidKinds := [.data], laidTests := true, laidLooks := .later }
def GridOnUptoCardSaid : Prop := Claim7.holds Tryd.pinned (.plain (OpenSpec.upto gridOnSpec)) gridOnUptoCard

/-- THE SECOND FORM's CARD OF 'exactreallaw09.GridTwice'. -/
def gridTwiceUptoCard : Claim7 := { stood := { row := gridTwiceUptoRow, standIns := [], harness := (true, "d6266cbc5a3360d5fc4f277695a2692bb8a993f07232a23648d2cbb78ee978b7"), looks := false }, kinds := [], alts := [], laidByText := true, laidKinds := [.data], laidTests := true, laidLooks := .later }
def GridTwiceUptoCardSaid : Prop := Claim7.holds Tryd.pinned (.plain (OpenSpec.upto gridTwiceSpec)) gridTwiceUptoCard
end Rows
end Go.Proofs.YtgjljalcgiddgaaDoor
