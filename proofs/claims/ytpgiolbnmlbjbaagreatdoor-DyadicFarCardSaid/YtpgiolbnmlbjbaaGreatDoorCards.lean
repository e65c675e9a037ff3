/-
  DERIVED. GIVEN WITH THE SEED: THE CARDS: each row of YtpgiolbnmlbjbaaGreatDoorRows.lean that lists a variable, with what it lists TIED to the program's text (the seventh form; the later family's looks); each row that meets fmt, with fmt's text TOLD by the authors' own Lean function (tested against real Go, not proved from fmt's source: count such statements apart). THE CARD IS WHAT COUNTS. Prove the row's statement (the work); the ties are given (YtpgiolbnmlbjbaaGreatDoorTie.lean); close each card by the builder's one call (the guide's Derived/Test/ToyasCard.lean, 'card_holds'). Laid BY PROGRAM, IN A SANDBOX (cutbox-door.mjs). By AI agents, Wed Nov 11 2026. No macro, syntax, notation, axiom, sorry.
-/
import Derived.Test.YtpgiolbnmlbjbaaGreatDoorRows
import GoSem.ClaimSeven
namespace Go.Proofs.YtpgiolbnmlbjbaaGreatDoor
namespace Rows

/-- THE TIED CARD OF 'exactreallaw08.DyadicMakes'. -/
def dyadicMakesCard : Claim7 := { stood := { row := dyadicMakesRow, standIns := [], harness := (true, "d2e02497cc0576fdc2936fa40292a74c2257b45b6b204833823a718161194a23"), looks := false }, kinds := [], alts := [], laidByText := true, laidKinds := [.data, .data, .data, .data, .pinned], laidTests := true, laidLooks := .later }
def DyadicMakesCardSaid : Prop := Claim7.holds Tryz.pinned (.plain (OpenSpec.ofChange dyadicMakesSpec)) dyadicMakesCard

/-- THE TIED CARD OF 'exactreallaw08.DyadicExact'. -/
def dyadicExactCard : Claim7 := { stood := { row := dyadicExactRow, standIns := [], harness := (true, "d2e02497cc0576fdc2936fa40292a74c2257b45b6b204833823a718161194a23"), looks := false }, kinds := [], alts := [], laidByText := true, laidKinds := [.data, .data, .data, .data, .pinned], laidTests := true, laidLooks := .later }
def DyadicExactCardSaid : Prop := Claim7.holds Tryz.pinned (.plain (OpenSpec.ofChange dyadicExactSpec)) dyadicExactCard

/-- THE TIED CARD OF 'exactreallaw08.DyadicFar'. -/
def dyadicFarCard : Claim7 := { stood := { row := dyadicFarRow, standIns := [], harness := (true, "d2e02497cc0576fdc2936fa40292a74c2257b45b6b204833823a718161194a23"), looks := false }, kinds := [], alts := [], laidByText := true, laidKinds := [.data, .data, .data, .data, .pinned], laidTests := true, laidLooks := .later }
def DyadicFarCardSaid : Prop := Claim7.holds Tryz.pinned (.plain (OpenSpec.ofChange dyadicFarSpec)) dyadicFarCard

/-- THE TIED CARD OF 'exactreallaw08.DyadicOrders'. -/
def dyadicOrdersCard : Claim7 := { stood := { row := dyadicOrdersRow, standIns := [], harness := (true, "d2e02497cc0576fdc2936fa40292a74c2257b45b6b204833823a718161194a23"), looks := false }, kinds := [], alts := [], laidByText := true, laidKinds := [.data, .data, .data, .data, .pinned], laidTests := true, laidLooks := .later }
def DyadicOrdersCardSaid : Prop := Claim7.holds Tryz.pinned (.plain (OpenSpec.ofChange dyadicOrdersSpec)) dyadicOrdersCard

/-- THE TIED CARD OF 'exactreallaw08.DyadicFrom'. -/
def dyadicFromCard : Claim7 := { stood := { row := dyadicFromRow, standIns := [], harness := (true, "d2e02497cc0576fdc2936fa40292a74c2257b45b6b204833823a718161194a23"), looks := false }, kinds := [], alts := [], laidByText := true, laidKinds := [.data, .data, .data, .data, .pinned], laidTests := true, laidLooks := .later }
def DyadicFromCardSaid : Prop := Claim7.holds Tryz.pinned (.plain (OpenSpec.ofChange dyadicFromSpec)) dyadicFromCard

/-- THE TIED CARD OF 'exactreallaw08.DyadicTexts'. -/
def dyadicTextsCard : Claim7 := { stood := { row := dyadicTextsRow, standIns := [], harness := (true, "d2e02497cc0576fdc2936fa40292a74c2257b45b6b204833823a718161194a23"), looks := false }, kinds := [], alts := [], laidByText := true, laidKinds := [.data, .data, .data, .data, .pinned], laidTests := true, laidLooks := .later }
def DyadicTextsCardSaid : Prop := Claim7.holds Tryz.pinned (.plain (OpenSpec.ofChange dyadicTextsSpec)) dyadicTextsCard

/-- THE TIED CARD OF 'exactreallaw08.DyadicParses'. -/
def dyadicParsesCard : Claim7 := { stood := { row := dyadicParsesRow, standIns := [], harness := (true, "d2e02497cc0576fdc2936fa40292a74c2257b45b6b204833823a718161194a23"), looks := false }, kinds := [], alts := [], laidByText := true, laidKinds := [.data, .data, .data, .data, .pinned], laidTests := true, laidLooks := .later }
def DyadicParsesCardSaid : Prop := Claim7.holds Tryz.pinned (.plain (OpenSpec.ofChange dyadicParsesSpec)) dyadicParsesCard

/-- THE SECOND FORM's CARD OF 'exactreallaw08.DyadicMakes'. -/
def dyadicMakesUptoCard : Claim7 := { stood := { row := dyadicMakesUptoRow, standIns := [], harness := (true, "d2e02497cc0576fdc2936fa40292a74c2257b45b6b204833823a718161194a23"), looks := false }, kinds := [], alts := [], laidByText := true, laidKinds := [.data, .data, .data, .data, .pinned], laidTests := true, laidLooks := .later }
def DyadicMakesUptoCardSaid : Prop := Claim7.holds Tryz.pinned (.plain (OpenSpec.upto dyadicMakesSpec)) dyadicMakesUptoCard

/-- THE SECOND FORM's CARD OF 'exactreallaw08.DyadicExact'. -/
def dyadicExactUptoCard : Claim7 := { stood := { row := dyadicExactUptoRow, standIns := [], harness := (true, "d2e02497cc0576fdc2936fa40292a74c2257b45b6b204833823a718161194a23"), looks := false }, kinds := [], alts := [], laidByText := true, laidKinds := [.data, .data, .data, .data, .pinned], laidTests := true, laidLooks := .later }
def DyadicExactUptoCardSaid : Prop := Claim7.holds Tryz.pinned (.plain (OpenSpec.upto dyadicExactSpec)) dyadicExactUptoCard

/-- THE SECOND FORM's CARD OF 'exactreallaw08.DyadicFar'. -/
def dyadicFarUptoCard : Claim7 := { stood := { row := dyadicFarUptoRow, standIns := [], harness := (true, "d2e02497cc0576fdc2936fa40292a74c2257b45b6b204833823a718161194a23"), looks := false }, kinds := [], alts := [], laidByText := true, laidKinds := [.data, .data, .data, .data, .pinned], laidTests := true, laidLooks := .later }
def DyadicFarUptoCardSaid : Prop := Claim7.holds Tryz.pinned (.plain (OpenSpec.upto dyadicFarSpec)) dyadicFarUptoCard

/-- THE SECOND FORM's CARD OF 'exactreallaw08.DyadicOrders'. -/
def dyadicOrdersUptoCard : Claim7 := { stood := { row := dyadicOrdersUptoRow, standIns := [], harness := (true, "d2e02497cc0576fdc2936fa40292a74c2257b45b6b204833823a718161194a23"), looks := false }, kinds := [], alts := [], laidByText := true, laidKinds := [.data, .data, .data, .data, .pinned], laidTests := true, laidLooks := .later }
def DyadicOrdersUptoCardSaid : Prop := Claim7.holds Tryz.pinned (.plain (OpenSpec.upto dyadicOrdersSpec)) dyadicOrdersUptoCard

/-- THE SECOND FORM's CARD OF 'exactreallaw08.DyadicFrom'. -/
def dyadicFromUptoCard : Claim7 := { stood := { row := dyadicFromUptoRow, standIns := [], harness := (true, "d2e02497cc0576fdc2936fa40292a74c2257b45b6b204833823a718161194a23"), looks := false }, kinds := [], alts := [], laidByText := true, laidKinds := [.data, .data, .data, .data, .pinned], laidTests := true, laidLooks := .later }
def DyadicFromUptoCardSaid : Prop := Claim7.holds Tryz.pinned (.plain (OpenSpec.upto dyadicFromSpec)) dyadicFromUptoCard

/-- THE SECOND FORM's CARD OF 'exactreallaw08.DyadicTexts'. -/
def dyadicTextsUptoCard : Claim7 := { stood := { row := dyadicTextsUptoRow, standIns := [], harness := (true, "d2e02497cc0576fdc2936fa40292a74c2257b45b6b204833823a718161194a23"), looks := false }, kinds := [], alts := [], laidByText := true, laidKinds := [.data, .data, .data, .data, .pinned], laidTests := true, laidLooks := .later }
def DyadicTextsUptoCardSaid : Prop := Claim7.holds Tryz.pinned (.plain (OpenSpec.upto dyadicTextsSpec)) dyadicTextsUptoCard

/-- THE SECOND FORM's CARD OF 'exactreallaw08.DyadicParses'. -/
def dyadicParsesUptoCard : Claim7 := { stood := { row := dyadicParsesUptoRow, standIns := [], harness := (true, "d2e02497cc0576fdc2936fa40292a74c2257b45b6b204833823a718161194a23"), looks := false }, kinds := [], alts := [], laidByText := true, laidKinds := [.data, .data, .data, .data, .pinned], laidTests := true, laidLooks := .later }
def DyadicParsesUptoCardSaid : Prop := Claim7.holds Tryz.pinned (.plain (OpenSpec.upto dyadicParsesSpec)) dyadicParsesUptoCard
end Rows
end Go.Proofs.YtpgiolbnmlbjbaaGreatDoor
