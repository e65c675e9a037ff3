/-
  DERIVED. GIVEN WITH THE SEED: THE CARDS: each row of YtfnklkdbieikeaaGreatDoorRows.lean that lists a variable, with what it lists TIED to the program's text (the seventh form; the later family's looks); each row that meets fmt, with fmt's text TOLD by the authors' own Lean function (tested against real Go, not proved from fmt's source: count such statements apart). THE CARD IS WHAT COUNTS. Prove the row's statement (the work); the ties are given (YtfnklkdbieikeaaGreatDoorTie.lean); close each card by the builder's one call (the guide's Derived/Test/ToyasCard.lean, 'card_holds'). Laid BY PROGRAM, IN A SANDBOX (cutbox-door.mjs). By AI agents, Wed Nov 11 2026. No macro, syntax, notation, axiom, sorry.
-/
import Derived.Test.YtfnklkdbieikeaaGreatDoorRows
import GoSem.ClaimSeven
namespace Go.Proofs.YtfnklkdbieikeaaGreatDoor
namespace Rows

/-- THE TIED CARD OF 'exactreallaw13.ConstantTight'. -/
def constantTightCard : Claim7 := { stood := { row := constantTightRow, standIns := [], harness := (true, "8799bde51b30626ec2f5e8aa777ccbb1b3c02866c29d9e9d1b87531303f4e6ab"), looks := false }, kinds := [], alts := [], laidByText := true, laidKinds := [.data], laidTests := true, laidLooks := .later }
def ConstantTightCardSaid : Prop := Claim7.holds Tryz.pinned (.plain (OpenSpec.ofChange constantTightSpec)) constantTightCard

/-- THE TIED CARD OF 'exactreallaw13.ConstantMeets'. -/
def constantMeetsCard : Claim7 := { stood := { row := constantMeetsRow, standIns := [], harness := (true, "8799bde51b30626ec2f5e8aa777ccbb1b3c02866c29d9e9d1b87531303f4e6ab"), looks := false }, kinds := [], alts := [], laidByText := true, laidKinds := [.data], laidTests := true, laidLooks := .later }
def ConstantMeetsCardSaid : Prop := Claim7.holds Tryz.pinned (.plain (OpenSpec.ofChange constantMeetsSpec)) constantMeetsCard

/-- THE TIED CARD OF 'exactreallaw13.ConstantRange'. -/
def constantRangeCard : Claim7 := { stood := { row := constantRangeRow, standIns := [], harness := (true, "8799bde51b30626ec2f5e8aa777ccbb1b3c02866c29d9e9d1b87531303f4e6ab"), looks := false }, kinds := [], alts := [], laidByText := true, laidKinds := [.data], laidTests := true, laidLooks := .later }
def ConstantRangeCardSaid : Prop := Claim7.holds Tryz.pinned (.plain (OpenSpec.ofChange constantRangeSpec)) constantRangeCard

/-- THE TIED CARD OF 'exactreallaw13.ConstantTightness'. -/
def constantTightnessCard : Claim7 := { stood := { row := constantTightnessRow, standIns := [], harness := (true, "8799bde51b30626ec2f5e8aa777ccbb1b3c02866c29d9e9d1b87531303f4e6ab"), looks := false }, kinds := [], alts := [], laidByText := true, laidKinds := [.data], laidTests := true, laidLooks := .later }
def ConstantTightnessCardSaid : Prop := Claim7.holds Tryz.pinned (.plain (OpenSpec.ofChange constantTightnessSpec)) constantTightnessCard

/-- THE TIED CARD OF 'exactreallaw13.ConstantSquares'. -/
def constantSquaresCard : Claim7 := { stood := { row := constantSquaresRow, standIns := [], harness := (true, "8799bde51b30626ec2f5e8aa777ccbb1b3c02866c29d9e9d1b87531303f4e6ab"), looks := false }, kinds := [], alts := [], laidByText := true, laidKinds := [.data], laidTests := true, laidLooks := .later }
def ConstantSquaresCardSaid : Prop := Claim7.holds Tryz.pinned (.plain (OpenSpec.ofChange constantSquaresSpec)) constantSquaresCard

/-- THE SECOND FORM's CARD OF 'exactreallaw13.ConstantTight'. -/
def constantTightUptoCard : Claim7 := { stood := { row := constantTightUptoRow, standIns := [], harness := (true, "8799bde51b30626ec2f5e8aa777ccbb1b3c02866c29d9e9d1b87531303f4e6ab"), looks := false }, kinds := [], alts := [], laidByText := true, laidKinds := [.data], laidTests := true, laidLooks := .later }
def ConstantTightUptoCardSaid : Prop := Claim7.holds Tryz.pinned (.plain (OpenSpec.upto constantTightSpec)) constantTightUptoCard

/-- THE SECOND FORM's CARD OF 'exactreallaw13.ConstantMeets'. -/
def constantMeetsUptoCard : Claim7 := { stood := { row := constantMeetsUptoRow, standIns := [], harness := (true, "8799bde51b30626ec2f5e8aa777ccbb1b3c02866c29d9e9d1b87531303f4e6ab"), looks := false }, kinds := [], alts := [], laidByText := true, laidKinds := [.data], laidTests := true, laidLooks := .later }
def ConstantMeetsUptoCardSaid : Prop := Claim7.holds Tryz.pinned (.plain (OpenSpec.upto constantMeetsSpec)) constantMeetsUptoCard

/-- THE SECOND FORM's CARD OF 'exactreallaw13.ConstantRange'. -/
def constantRangeUptoCard : Claim7 := { stood := { row := constantRangeUptoRow, standIns := [], harness := (true, "8799bde51b30626ec2f5e8aa777ccbb1b3c02866c29d9e9d1b87531303f4e6ab"), looks := false }, kinds := [], alts := [], laidByText := true, laidKinds := [.data], laidTests := true, laidLooks := .later }
def ConstantRangeUptoCardSaid : Prop := Claim7.holds Tryz.pinned (.plain (OpenSpec.upto constantRangeSpec)) constantRangeUptoCard

/-- THE SECOND FORM's CARD OF 'exactreallaw13.ConstantTightness'. -/
def constantTightnessUptoCard : Claim7 := { stood := { row := constantTightnessUptoRow, standIns := [], harness := (true, "8799bde51b30626ec2f5e8aa777ccbb1b3c02866c29d9e9d1b87531303f4e6ab"), looks := false }, kinds := [], alts := [], laidByText := true, laidKinds := [.data], laidTests := true, laidLooks := .later }
def ConstantTightnessUptoCardSaid : Prop := Claim7.holds Tryz.pinned (.plain (OpenSpec.upto constantTightnessSpec)) constantTightnessUptoCard

/-- THE SECOND FORM's CARD OF 'exactreallaw13.ConstantSquares'. -/
def constantSquaresUptoCard : Claim7 := { stood := { row := constantSquaresUptoRow, standIns := [], harness := (true, "8799bde51b30626ec2f5e8aa777ccbb1b3c02866c29d9e9d1b87531303f4e6ab"), looks := false }, kinds := [], alts := [], laidByText := true, laidKinds := [.data], laidTests := true, laidLooks := .later }
def ConstantSquaresUptoCardSaid : Prop := Claim7.holds Tryz.pinned (.plain (OpenSpec.upto constantSquaresSpec)) constantSquaresUptoCard
end Rows
end Go.Proofs.YtfnklkdbieikeaaGreatDoor
