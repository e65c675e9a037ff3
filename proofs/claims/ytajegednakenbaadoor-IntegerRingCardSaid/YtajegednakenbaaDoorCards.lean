/-
  DERIVED. GIVEN WITH THE SEED: THE CARDS: each row of YtajegednakenbaaDoorRows.lean that lists a variable, with what it lists TIED to the program's text (the seventh form; the later family's looks); each row that meets fmt, with fmt's text TOLD by the authors' own Lean function (tested against real Go, not proved from fmt's source: count such statements apart). THE CARD IS WHAT COUNTS. Prove the row's statement (the work); the ties are given (YtajegednakenbaaDoorTie.lean); close each card by the builder's one call (the guide's Derived/Test/ToyasCard.lean, 'card_holds'). Laid BY PROGRAM, IN A SANDBOX (cutbox-door.mjs). By AI agents, Wed Nov 11 2026. No macro, syntax, notation, axiom, sorry.
-/
import Derived.Test.YtajegednakenbaaDoorRows
import GoSem.ClaimSeven
namespace Go.Proofs.YtajegednakenbaaDoor
namespace Rows

/-- THE TIED CARD OF 'exactreallaw05.IntegerValues'. -/
def integerValuesCard : Claim7 := { stood := { row := integerValuesRow, standIns := [], harness := (true, "e7c20ca2a8f5513c9745ce42fc68bd5443144e28b53d3a875a3fd3131cc6d33a"), looks := false }, kinds := [], alts := [], laidByText := true, laidKinds := [.data], laidTests := true, laidLooks := .later }
def IntegerValuesCardSaid : Prop := Claim7.holds Tryd.pinned (.plain (OpenSpec.ofChange integerValuesSpec)) integerValuesCard

/-- THE TIED CARD OF 'exactreallaw05.IntegerEnds'. -/
def integerEndsCard : Claim7 := { stood := { row := integerEndsRow, standIns := [], harness := (true, "e7c20ca2a8f5513c9745ce42fc68bd5443144e28b53d3a875a3fd3131cc6d33a"), looks := false }, kinds := [], alts := [], laidByText := true, laidKinds := [.data], laidTests := true, laidLooks := .later }
def IntegerEndsCardSaid : Prop := Claim7.holds Tryd.pinned (.plain (OpenSpec.ofChange integerEndsSpec)) integerEndsCard

/-- THE TIED CARD OF 'exactreallaw05.IntegerOrders'. -/
def integerOrdersCard : Claim7 := { stood := { row := integerOrdersRow, standIns := [], harness := (true, "e7c20ca2a8f5513c9745ce42fc68bd5443144e28b53d3a875a3fd3131cc6d33a"), looks := false }, kinds := [], alts := [], laidByText := true, laidKinds := [.data], laidTests := true, laidLooks := .later }
def IntegerOrdersCardSaid : Prop := Claim7.holds Tryd.pinned (.plain (OpenSpec.ofChange integerOrdersSpec)) integerOrdersCard

/-- THE TIED CARD OF 'exactreallaw05.IntegerRing'. -/
def integerRingCard : Claim7 := { stood := { row := integerRingRow, standIns := [], harness := (true, "e7c20ca2a8f5513c9745ce42fc68bd5443144e28b53d3a875a3fd3131cc6d33a"), looks := false }, kinds := [], alts := [], laidByText := true, laidKinds := [.data], laidTests := true, laidLooks := .later }
def IntegerRingCardSaid : Prop := Claim7.holds Tryd.pinned (.plain (OpenSpec.ofChange integerRingSpec)) integerRingCard

/-- THE TIED CARD OF 'exactreallaw05.IntegerDivides'. -/
def integerDividesCard : Claim7 := { stood := { row := integerDividesRow, standIns := [], harness := (true, "e7c20ca2a8f5513c9745ce42fc68bd5443144e28b53d3a875a3fd3131cc6d33a"), looks := false }, kinds := [], alts := [], laidByText := true, laidKinds := [.data], laidTests := true, laidLooks := .later }
def IntegerDividesCardSaid : Prop := Claim7.holds Tryd.pinned (.plain (OpenSpec.ofChange integerDividesSpec)) integerDividesCard

/-- THE TIED CARD OF 'exactreallaw05.IntegerShifts'. -/
def integerShiftsCard : Claim7 := { stood := { row := integerShiftsRow, standIns := [], harness := (true, "e7c20ca2a8f5513c9745ce42fc68bd5443144e28b53d3a875a3fd3131cc6d33a"), looks := false }, kinds := [], alts := [], laidByText := true, laidKinds := [.data], laidTests := true, laidLooks := .later }
def IntegerShiftsCardSaid : Prop := Claim7.holds Tryd.pinned (.plain (OpenSpec.ofChange integerShiftsSpec)) integerShiftsCard

/-- THE SECOND FORM's CARD OF 'exactreallaw05.IntegerValues'. -/
def integerValuesUptoCard : Claim7 := { stood := { row := integerValuesUptoRow, standIns := [], harness := (true, "e7c20ca2a8f5513c9745ce42fc68bd5443144e28b53d3a875a3fd3131cc6d33a"), looks := false }, kinds := [], alts := [], laidByText := true, laidKinds := [.data], laidTests := true, laidLooks := .later }
def IntegerValuesUptoCardSaid : Prop := Claim7.holds Tryd.pinned (.plain (OpenSpec.upto integerValuesSpec)) integerValuesUptoCard

/-- THE SECOND FORM's CARD OF 'exactreallaw05.IntegerEnds'. -/
def integerEndsUptoCard : Claim7 := { stood := { row := integerEndsUptoRow, standIns := [], harness := (true, "e7c20ca2a8f5513c9745ce42fc68bd5443144e28b53d3a875a3fd3131cc6d33a"), looks := false }, kinds := [], alts := [], laidByText := true, laidKinds := [.data], laidTests := true, laidLooks := .later }
def IntegerEndsUptoCardSaid : Prop := Claim7.holds Tryd.pinned (.plain (OpenSpec.upto integerEndsSpec)) integerEndsUptoCard

/-- THE SECOND FORM's CARD OF 'exactreallaw05.IntegerOrders'. -/
def integerOrdersUptoCard : Claim7 := { stood := { row := integerOrdersUptoRow, standIns := [], harness := (true, "e7c20ca2a8f5513c9745ce42fc68bd5443144e28b53d3a875a3fd3131cc6d33a"), looks := false }, kinds := [], alts := [], laidByText := true, laidKinds := [.data], laidTests := true, laidLooks := .later }
def IntegerOrdersUptoCardSaid : Prop := Claim7.holds Tryd.pinned (.plain (OpenSpec.upto integerOrdersSpec)) integerOrdersUptoCard

/-- THE SECOND FORM's CARD OF 'exactreallaw05.IntegerRing'. -/
def integerRingUptoCard : Claim7 := { stood := { row := integerRingUptoRow, standIns := [], harness := (true, "e7c20ca2a8f5513c9745ce42fc68bd5443144e28b53d3a875a3fd3131cc6d33a"), looks := false }, kinds := [], alts := [], laidByText := true, laidKinds := [.data], laidTests := true, laidLooks := .later }
def IntegerRingUptoCardSaid : Prop := Claim7.holds Tryd.pinned (.plain (OpenSpec.upto integerRingSpec)) integerRingUptoCard

/-- THE SECOND FORM's CARD OF 'exactreallaw05.IntegerDivides'. -/
def integerDividesUptoCard : Claim7 := { stood := { row := integerDividesUptoRow, standIns := [], harness := (true, "e7c20ca2a8f5513c9745ce42fc68bd5443144e28b53d3a875a3fd3131cc6d33a"), looks := false }, kinds := [], alts := [], laidByText := true, laidKinds := [.data], laidTests := true, laidLooks := .later }
def IntegerDividesUptoCardSaid : Prop := Claim7.holds Tryd.pinned (.plain (OpenSpec.upto integerDividesSpec)) integerDividesUptoCard

/-- THE SECOND FORM's CARD OF 'exactreallaw05.IntegerShifts'. -/
def integerShiftsUptoCard : Claim7 := { stood := { row := integerShiftsUptoRow, standIns := [], harness := (true, "e7c20ca2a8f5513c9745ce42fc68bd5443144e28b53d3a875a3fd3131cc6d33a"), looks := false }, kinds := [], alts := [], laidByText := true, laidKinds := [.data], laidTests := true, laidLooks := .later }
def IntegerShiftsUptoCardSaid : Prop := Claim7.holds Tryd.pinned (.plain (OpenSpec.upto integerShiftsSpec)) integerShiftsUptoCard
end Rows
end Go.Proofs.YtajegednakenbaaDoor
