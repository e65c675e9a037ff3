/-
  NARROWER THAN 'FOR EVERY INPUT', by the rows' own cells (each row's printed sentence says how): RadicalRoots: laid · RadicalBounds: laid · RadicalPowers: laid · RadicalPoints: laid · RadicalProducts: laid.
  DERIVED. THE GIVEN ROWS OF THIS SEAT. 5 by the template 'for every input the law returns true; each argument reads behind the call as it read before'; 0 by the template 'total and deterministic' (their statements: YthfabjpbdgieoaaGreatDoorTotals.lean).
  GIVEN WITH THE SEED: the statements are not yours to turn. If you find one false, say at which input.
  Laid BY PROGRAM, IN A SANDBOX (cutbox-rows.mjs): the forced cells as the released guide's own fill.sh prints them over the translation dc97e9d0304af7f2… (all of the seat's roots in one cut). By AI agents, Wed Nov 11 2026. No macro, syntax, notation, axiom, sorry.
-/
import Derived.Test.YthfabjpbdgieoaaGreatDoorChecked
import GoSem.Claim
import GoSem.ClaimJoined
import GoSem.ClaimMapViews
import Derived.JoinedTies
import Derived.KernelRfl
namespace Go.Proofs.YthfabjpbdgieoaaGreatDoor
/- THE CELL 'sum', in the pinned program and in every row, IS THE sha256 OF THE DUMP (.gsa) THAT YthfabjpbdgieoaaGreatDoorProg.lean LOADS. Nothing in Lean hashes anything: it is a label: what it is worth is what the hold of that sum in a sandbox is worth. -/
noncomputable def Tryz.pinned : Pinned := { name := "ythfabjpbdgieoaagreatdoor", sum := "dc97e9d0304af7f29901421c01d801dd93fdc139a730e0d831bb70bde9f817ea", checked := Tryz.checked }
namespace Rows
def none {H : Type} : Left H := { results := [], args := [] }

/- WHAT THE LISTED PACKAGE-LEVEL VARIABLES READ AS WHEN THE CALL BEGINS. Each datum BY PROGRAM (the guide's laid-datum.mjs) off the statement by which the dump's own 'gosem.cut.vars' lays the variable. In a bare row this is a premise. The card (YthfabjpbdgieoaaGreatDoorCards.lean) ties it to the program's text. -/
def laid_math_bits_deBruijn32tab {H : Type} : DataW H := .agg [.lit (.int .u8 0), .lit (.int .u8 1), .lit (.int .u8 28), .lit (.int .u8 2), .lit (.int .u8 29), .lit (.int .u8 14), .lit (.int .u8 24), .lit (.int .u8 3), .lit (.int .u8 30), .lit (.int .u8 22), .lit (.int .u8 20), .lit (.int .u8 15), .lit (.int .u8 25), .lit (.int .u8 17), .lit (.int .u8 4), .lit (.int .u8 8), .lit (.int .u8 31), .lit (.int .u8 27), .lit (.int .u8 13), .lit (.int .u8 23), .lit (.int .u8 21), .lit (.int .u8 19), .lit (.int .u8 16), .lit (.int .u8 7), .lit (.int .u8 26), .lit (.int .u8 12), .lit (.int .u8 18), .lit (.int .u8 6), .lit (.int .u8 11), .lit (.int .u8 5), .lit (.int .u8 10), .lit (.int .u8 9)]

/-- 'exactreallaw12.RadicalRoots': WHATEVER THE INPUT: true; the input reads as it did. -/
def radicalRootsSpec : ChangeSpec := { name := "radicalRoots", fn := fun _ => fun
  | [d1, d2, d3] => { results := [.lit (.bool true)], args := [d1, d2, d3] }
  | _ => none }
def radicalRootsRow : OpenClaim := { program := "ythfabjpbdgieoaagreatdoor", sum := "dc97e9d0304af7f29901421c01d801dd93fdc139a730e0d831bb70bde9f817ea", func := "exactreal/exactreallaw12.RadicalRoots", spec := "radicalRoots", unfollowed := true, recurses := true, named := ["math/bits.deBruijn32tab", "math/bits.overflowError"], apart := false, laid := [("math/bits.deBruijn32tab", laid_math_bits_deBruijn32tab)] }
def RadicalRootsSaid : Prop := radicalRootsRow.holds Tryz.pinned (OpenSpec.ofChange radicalRootsSpec)

/-- ITS FALSE NEIGHBOUR: 'it returns false'. Refute it at one input. -/
def radicalRootsWrong : ChangeSpec := { name := "radicalRoots", fn := fun _ => fun
  | [d1, d2, d3] => { results := [.lit (.bool false)], args := [d1, d2, d3] }
  | _ => none }
def RadicalRootsWrongFalsely : Prop := radicalRootsRow.holds Tryz.pinned (OpenSpec.ofChange radicalRootsWrong)

/-- 'exactreallaw12.RadicalBounds': WHATEVER THE INPUT: true; the input reads as it did. -/
def radicalBoundsSpec : ChangeSpec := { name := "radicalBounds", fn := fun _ => fun
  | [d1, d2, d3] => { results := [.lit (.bool true)], args := [d1, d2, d3] }
  | _ => none }
def radicalBoundsRow : OpenClaim := { program := "ythfabjpbdgieoaagreatdoor", sum := "dc97e9d0304af7f29901421c01d801dd93fdc139a730e0d831bb70bde9f817ea", func := "exactreal/exactreallaw12.RadicalBounds", spec := "radicalBounds", unfollowed := true, recurses := true, named := ["math/bits.deBruijn32tab", "math/bits.overflowError"], apart := false, laid := [("math/bits.deBruijn32tab", laid_math_bits_deBruijn32tab)] }
def RadicalBoundsSaid : Prop := radicalBoundsRow.holds Tryz.pinned (OpenSpec.ofChange radicalBoundsSpec)

/-- ITS FALSE NEIGHBOUR: 'it returns false'. Refute it at one input. -/
def radicalBoundsWrong : ChangeSpec := { name := "radicalBounds", fn := fun _ => fun
  | [d1, d2, d3] => { results := [.lit (.bool false)], args := [d1, d2, d3] }
  | _ => none }
def RadicalBoundsWrongFalsely : Prop := radicalBoundsRow.holds Tryz.pinned (OpenSpec.ofChange radicalBoundsWrong)

/-- 'exactreallaw12.RadicalPowers': WHATEVER THE INPUT: true; the input reads as it did. -/
def radicalPowersSpec : ChangeSpec := { name := "radicalPowers", fn := fun _ => fun
  | [d1, d2, d3, d4] => { results := [.lit (.bool true)], args := [d1, d2, d3, d4] }
  | _ => none }
def radicalPowersRow : OpenClaim := { program := "ythfabjpbdgieoaagreatdoor", sum := "dc97e9d0304af7f29901421c01d801dd93fdc139a730e0d831bb70bde9f817ea", func := "exactreal/exactreallaw12.RadicalPowers", spec := "radicalPowers", unfollowed := true, recurses := true, named := ["math/bits.deBruijn32tab", "math/bits.overflowError"], apart := false, laid := [("math/bits.deBruijn32tab", laid_math_bits_deBruijn32tab)] }
def RadicalPowersSaid : Prop := radicalPowersRow.holds Tryz.pinned (OpenSpec.ofChange radicalPowersSpec)

/-- ITS FALSE NEIGHBOUR: 'it returns false'. Refute it at one input. -/
def radicalPowersWrong : ChangeSpec := { name := "radicalPowers", fn := fun _ => fun
  | [d1, d2, d3, d4] => { results := [.lit (.bool false)], args := [d1, d2, d3, d4] }
  | _ => none }
def RadicalPowersWrongFalsely : Prop := radicalPowersRow.holds Tryz.pinned (OpenSpec.ofChange radicalPowersWrong)

/-- 'exactreallaw12.RadicalPoints': WHATEVER THE INPUT: true; the input reads as it did. -/
def radicalPointsSpec : ChangeSpec := { name := "radicalPoints", fn := fun _ => fun
  | [d1, d2, d3] => { results := [.lit (.bool true)], args := [d1, d2, d3] }
  | _ => none }
def radicalPointsRow : OpenClaim := { program := "ythfabjpbdgieoaagreatdoor", sum := "dc97e9d0304af7f29901421c01d801dd93fdc139a730e0d831bb70bde9f817ea", func := "exactreal/exactreallaw12.RadicalPoints", spec := "radicalPoints", unfollowed := true, recurses := true, named := ["math/bits.deBruijn32tab", "math/bits.overflowError"], apart := false, laid := [("math/bits.deBruijn32tab", laid_math_bits_deBruijn32tab)] }
def RadicalPointsSaid : Prop := radicalPointsRow.holds Tryz.pinned (OpenSpec.ofChange radicalPointsSpec)

/-- ITS FALSE NEIGHBOUR: 'it returns false'. Refute it at one input. -/
def radicalPointsWrong : ChangeSpec := { name := "radicalPoints", fn := fun _ => fun
  | [d1, d2, d3] => { results := [.lit (.bool false)], args := [d1, d2, d3] }
  | _ => none }
def RadicalPointsWrongFalsely : Prop := radicalPointsRow.holds Tryz.pinned (OpenSpec.ofChange radicalPointsWrong)

/-- 'exactreallaw12.RadicalProducts': WHATEVER THE INPUT: true; the input reads as it did. -/
def radicalProductsSpec : ChangeSpec := { name := "radicalProducts", fn := fun _ => fun
  | [d1, d2] => { results := [.lit (.bool true)], args := [d1, d2] }
  | _ => none }
def radicalProductsRow : OpenClaim := { program := "ythfabjpbdgieoaagreatdoor", sum := "dc97e9d0304af7f29901421c01d801dd93fdc139a730e0d831bb70bde9f817ea", func := "exactreal/exactreallaw12.RadicalProducts", spec := "radicalProducts", unfollowed := true, recurses := true, named := ["math/bits.deBruijn32tab", "math/bits.overflowError"], apart := false, laid := [("math/bits.deBruijn32tab", laid_math_bits_deBruijn32tab)] }
def RadicalProductsSaid : Prop := radicalProductsRow.holds Tryz.pinned (OpenSpec.ofChange radicalProductsSpec)

/-- ITS FALSE NEIGHBOUR: 'it returns false'. Refute it at one input. -/
def radicalProductsWrong : ChangeSpec := { name := "radicalProducts", fn := fun _ => fun
  | [d1, d2] => { results := [.lit (.bool false)], args := [d1, d2] }
  | _ => none }
def RadicalProductsWrongFalsely : Prop := radicalProductsRow.holds Tryz.pinned (OpenSpec.ofChange radicalProductsWrong)

/- THE SECOND FORM. 'bulk': how many values and letters a reading holds, each counted each time it is reached (what is shared counts as often as it is met; a slice's spare places count too). A statement '..UptoSaid' is the law's where the arguments, and the package variables that the reading takes, are together of bulk at most 1048576: NARROWER than '..Said'. Prove '..Said' where nothing that the law and all that it calls make is longer than what came in: it says more and counts as full. Else prove '..UptoSaid'. A law counts once. -/
mutual
def uptoBulk {H : Type} : DataW H → Nat
  | .lit (.string bytes) => bytes.length + 1
  | .lit _ => 1
  | .nil => 1
  | .ptr d => uptoBulk d + 1
  | .slice elems spare => uptoBulkAll elems + uptoBulkAll spare + 1
  | .agg parts => uptoBulkAll parts + 1
  | .iface _ d => uptoBulk d + 1
  | .map entries => uptoBulkEntries entries + 1
  | .held _ => 1
def uptoBulkAll {H : Type} : List (DataW H) → Nat
  | [] => 0
  | d :: r => uptoBulk d + uptoBulkAll r
def uptoBulkEntries {H : Type} : List (Lit × DataW H) → Nat
  | [] => 0
  | x :: r => uptoBulkEntry x + uptoBulkEntries r
def uptoBulkEntry {H : Type} : Lit × DataW H → Nat
  | (.string bytes, d) => bytes.length + uptoBulk d + 1
  | (_, d) => uptoBulk d + 1
 end
def uptoSmall : (H : Type) → List (DataW H) → Bool := fun _ ds => decide (uptoBulkAll ds ≤ 1048576)
def OpenSpec.upto (s : _root_.Go.ChangeSpec) : _root_.Go.OpenSpec := { _root_.Go.OpenSpec.ofChange s with cond := some uptoSmall }

/-- 'exactreallaw12.RadicalRoots', WHERE WHAT IT READS IS OF BULK AT MOST 1048576: true; the input reads as it did. -/
def radicalRootsUptoRow : OpenClaim := { program := "ythfabjpbdgieoaagreatdoor", sum := "dc97e9d0304af7f29901421c01d801dd93fdc139a730e0d831bb70bde9f817ea", func := "exactreal/exactreallaw12.RadicalRoots", spec := "radicalRoots", unfollowed := true, recurses := true, named := ["math/bits.deBruijn32tab", "math/bits.overflowError"], apart := false, laid := [("math/bits.deBruijn32tab", laid_math_bits_deBruijn32tab)], narrowed := true }
def RadicalRootsUptoSaid : Prop := radicalRootsUptoRow.holds Tryz.pinned (OpenSpec.upto radicalRootsSpec)

/-- 'exactreallaw12.RadicalBounds', WHERE WHAT IT READS IS OF BULK AT MOST 1048576: true; the input reads as it did. -/
def radicalBoundsUptoRow : OpenClaim := { program := "ythfabjpbdgieoaagreatdoor", sum := "dc97e9d0304af7f29901421c01d801dd93fdc139a730e0d831bb70bde9f817ea", func := "exactreal/exactreallaw12.RadicalBounds", spec := "radicalBounds", unfollowed := true, recurses := true, named := ["math/bits.deBruijn32tab", "math/bits.overflowError"], apart := false, laid := [("math/bits.deBruijn32tab", laid_math_bits_deBruijn32tab)], narrowed := true }
def RadicalBoundsUptoSaid : Prop := radicalBoundsUptoRow.holds Tryz.pinned (OpenSpec.upto radicalBoundsSpec)

/-- 'exactreallaw12.RadicalPowers', WHERE WHAT IT READS IS OF BULK AT MOST 1048576: true; the input reads as it did. -/
def radicalPowersUptoRow : OpenClaim := { program := "ythfabjpbdgieoaagreatdoor", sum := "dc97e9d0304af7f29901421c01d801dd93fdc139a730e0d831bb70bde9f817ea", func := "exactreal/exactreallaw12.RadicalPowers", spec := "radicalPowers", unfollowed := true, recurses := true, named := ["math/bits.deBruijn32tab", "math/bits.overflowError"], apart := false, laid := [("math/bits.deBruijn32tab", laid_math_bits_deBruijn32tab)], narrowed := true }
def RadicalPowersUptoSaid : Prop := radicalPowersUptoRow.holds Tryz.pinned (OpenSpec.upto radicalPowersSpec)

/-- 'exactreallaw12.RadicalPoints', WHERE WHAT IT READS IS OF BULK AT MOST 1048576: true; the input reads as it did. -/
def radicalPointsUptoRow : OpenClaim := { program := "ythfabjpbdgieoaagreatdoor", sum := "dc97e9d0304af7f29901421c01d801dd93fdc139a730e0d831bb70bde9f817ea", func := "exactreal/exactreallaw12.RadicalPoints", spec := "radicalPoints", unfollowed := true, recurses := true, named := ["math/bits.deBruijn32tab", "math/bits.overflowError"], apart := false, laid := [("math/bits.deBruijn32tab", laid_math_bits_deBruijn32tab)], narrowed := true }
def RadicalPointsUptoSaid : Prop := radicalPointsUptoRow.holds Tryz.pinned (OpenSpec.upto radicalPointsSpec)

/-- 'exactreallaw12.RadicalProducts', WHERE WHAT IT READS IS OF BULK AT MOST 1048576: true; the input reads as it did. -/
def radicalProductsUptoRow : OpenClaim := { program := "ythfabjpbdgieoaagreatdoor", sum := "dc97e9d0304af7f29901421c01d801dd93fdc139a730e0d831bb70bde9f817ea", func := "exactreal/exactreallaw12.RadicalProducts", spec := "radicalProducts", unfollowed := true, recurses := true, named := ["math/bits.deBruijn32tab", "math/bits.overflowError"], apart := false, laid := [("math/bits.deBruijn32tab", laid_math_bits_deBruijn32tab)], narrowed := true }
def RadicalProductsUptoSaid : Prop := radicalProductsUptoRow.holds Tryz.pinned (OpenSpec.upto radicalProductsSpec)

end Rows
end Go.Proofs.YthfabjpbdgieoaaGreatDoor
