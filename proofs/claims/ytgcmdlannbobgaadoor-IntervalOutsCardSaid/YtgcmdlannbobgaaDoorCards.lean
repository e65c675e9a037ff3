/-
  DERIVED. GIVEN WITH THE SEED: THE CARDS: each row of YtgcmdlannbobgaaDoorRows.lean that lists a variable, with what it lists TIED to the program's text (the seventh form; the later family's looks); each row that meets fmt, with fmt's text TOLD by the authors' own Lean function (tested against real Go, not proved from fmt's source: count such statements apart). THE CARD IS WHAT COUNTS. Prove the row's statement (the work); the ties are given (YtgcmdlannbobgaaDoorTie.lean); close each card by the builder's one call (the guide's Derived/Test/ToyasCard.lean, 'card_holds'). Laid BY PROGRAM, IN A SANDBOX (cutbox-door.mjs). By AI agents, Wed Nov 11 2026. No macro, syntax, notation, axiom, sorry.
-/
import Derived.Test.YtgcmdlannbobgaaDoorRows
import GoSem.ClaimSeven
namespace Go.Proofs.YtgcmdlannbobgaaDoor
namespace Rows

/-- THE TIED CARD OF 'exactreallaw10.IntervalMiddles'. -/
def intervalMiddlesCard : Claim7 := { stood := { row := intervalMiddlesRow, standIns := [], harness := (true, "52ef1d01d74d0d1a30a9a8eb4a546d8b72efe660f5b2d8dafdb0f94087c4674d"), looks := false }, kinds := [], alts := [], laidByText := true, laidKinds := [.data], laidTests := true, laidLooks := .later }
def IntervalMiddlesCardSaid : Prop := Claim7.holds Tryd.pinned (.plain (OpenSpec.ofChange intervalMiddlesSpec)) intervalMiddlesCard

/-- THE TIED CARD OF 'exactreallaw10.IntervalOuts'. -/
def intervalOutsCard : Claim7 := { stood := { row := intervalOutsRow, standIns := [], harness := (true, "52ef1d01d74d0d1a30a9a8eb4a546d8b72efe660f5b2d8dafdb0f94087c4674d"), looks := false }, kinds := [], alts := [], laidByText := true, laidKinds := [.data], laidTests := true, laidLooks := .later }
def IntervalOutsCardSaid : Prop := Claim7.holds Tryd.pinned (.plain (OpenSpec.ofChange intervalOutsSpec)) intervalOutsCard

/-- THE TIED CARD OF 'exactreallaw10.IntervalHalves'. -/
def intervalHalvesCard : Claim7 := { stood := { row := intervalHalvesRow, standIns := [], harness := (true, "52ef1d01d74d0d1a30a9a8eb4a546d8b72efe660f5b2d8dafdb0f94087c4674d"), looks := false }, kinds := [], alts := [], laidByText := true, laidKinds := [.data], laidTests := true, laidLooks := .later }
def IntervalHalvesCardSaid : Prop := Claim7.holds Tryd.pinned (.plain (OpenSpec.ofChange intervalHalvesSpec)) intervalHalvesCard

/-- THE SECOND FORM's CARD OF 'exactreallaw10.IntervalMiddles'. -/
def intervalMiddlesUptoCard : Claim7 := { stood := { row := intervalMiddlesUptoRow, standIns := [], harness := (true, "52ef1d01d74d0d1a30a9a8eb4a546d8b72efe660f5b2d8dafdb0f94087c4674d"), looks := false }, kinds := [], alts := [], laidByText := true, laidKinds := [.data], laidTests := true, laidLooks := .later }
def IntervalMiddlesUptoCardSaid : Prop := Claim7.holds Tryd.pinned (.plain (OpenSpec.upto intervalMiddlesSpec)) intervalMiddlesUptoCard

/-- THE SECOND FORM's CARD OF 'exactreallaw10.IntervalOuts'. -/
def intervalOutsUptoCard : Claim7 := { stood := { row := intervalOutsUptoRow, standIns := [], harness := (true, "52ef1d01d74d0d1a30a9a8eb4a546d8b72efe660f5b2d8dafdb0f94087c4674d"), looks := false }, kinds := [], alts := [], laidByText := true, laidKinds := [.data], laidTests := true, laidLooks := .later }
def IntervalOutsUptoCardSaid : Prop := Claim7.holds Tryd.pinned (.plain (OpenSpec.upto intervalOutsSpec)) intervalOutsUptoCard

/-- THE SECOND FORM's CARD OF 'exactreallaw10.IntervalHalves'. -/
def intervalHalvesUptoCard : Claim7 := { stood := { row := intervalHalvesUptoRow, standIns := [], harness := (true, "52ef1d01d74d0d1a30a9a8eb4a546d8b72efe660f5b2d8dafdb0f94087c4674d"), looks := false }, kinds := [], alts := [], laidByText := true, laidKinds := [.data], laidTests := true, laidLooks := .later }
def IntervalHalvesUptoCardSaid : Prop := Claim7.holds Tryd.pinned (.plain (OpenSpec.upto intervalHalvesSpec)) intervalHalvesUptoCard
end Rows
end Go.Proofs.YtgcmdlannbobgaaDoor
