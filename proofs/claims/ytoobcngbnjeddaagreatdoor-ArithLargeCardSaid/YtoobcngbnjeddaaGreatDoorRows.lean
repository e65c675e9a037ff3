/-
  NARROWER THAN 'FOR EVERY INPUT', by the rows' own cells (each row's printed sentence says how): ArithExact: laid · ArithDivides: laid · ArithConst: laid · ArithContains: laid · ArithShrinks: laid · ArithLarge: laid.
  DERIVED. THE GIVEN ROWS OF THIS SEAT. 6 by the template 'for every input the law returns true; each argument reads behind the call as it read before'; 0 by the template 'total and deterministic' (their statements: YtoobcngbnjeddaaGreatDoorTotals.lean).
  GIVEN WITH THE SEED: the statements are not yours to turn. If you find one false, say at which input.
  Laid BY PROGRAM, IN A SANDBOX (cutbox-rows.mjs): the forced cells as the released guide's own fill.sh prints them over the translation 4e640e6d10b32c80… (all of the seat's roots in one cut). By AI agents, Wed Nov 11 2026. No macro, syntax, notation, axiom, sorry.
-/
import Derived.Test.YtoobcngbnjeddaaGreatDoorChecked
import GoSem.Claim
import GoSem.ClaimJoined
import GoSem.ClaimMapViews
import Derived.JoinedTies
import Derived.KernelRfl
namespace Go.Proofs.YtoobcngbnjeddaaGreatDoor
/- THE CELL 'sum', in the pinned program and in every row, IS THE sha256 OF THE DUMP (.gsa) THAT YtoobcngbnjeddaaGreatDoorProg.lean LOADS. Nothing in Lean hashes anything: it is a label: what it is worth is what the hold of that sum in a sandbox is worth. -/
noncomputable def Tryz.pinned : Pinned := { name := "ytoobcngbnjeddaagreatdoor", sum := "4e640e6d10b32c8083f4a19322702c0adf90eb741a99d32520b13c60fa40b137", checked := Tryz.checked }
namespace Rows
def none {H : Type} : Left H := { results := [], args := [] }

/- WHAT THE LISTED PACKAGE-LEVEL VARIABLES READ AS WHEN THE CALL BEGINS. Each datum BY PROGRAM (the guide's laid-datum.mjs) off the statement by which the dump's own 'gosem.cut.vars' lays the variable. In a bare row this is a premise. The card (YtoobcngbnjeddaaGreatDoorCards.lean) ties it to the program's text. -/
def laid_math_bits_deBruijn32tab {H : Type} : DataW H := .agg [.lit (.int .u8 0), .lit (.int .u8 1), .lit (.int .u8 28), .lit (.int .u8 2), .lit (.int .u8 29), .lit (.int .u8 14), .lit (.int .u8 24), .lit (.int .u8 3), .lit (.int .u8 30), .lit (.int .u8 22), .lit (.int .u8 20), .lit (.int .u8 15), .lit (.int .u8 25), .lit (.int .u8 17), .lit (.int .u8 4), .lit (.int .u8 8), .lit (.int .u8 31), .lit (.int .u8 27), .lit (.int .u8 13), .lit (.int .u8 23), .lit (.int .u8 21), .lit (.int .u8 19), .lit (.int .u8 16), .lit (.int .u8 7), .lit (.int .u8 26), .lit (.int .u8 12), .lit (.int .u8 18), .lit (.int .u8 6), .lit (.int .u8 11), .lit (.int .u8 5), .lit (.int .u8 10), .lit (.int .u8 9)]

/-- 'exactreallaw11.ArithExact': WHATEVER THE INPUT: true; the input reads as it did. -/
def arithExactSpec : ChangeSpec := { name := "arithExact", fn := fun _ => fun
  | [d1, d2, d3] => { results := [.lit (.bool true)], args := [d1, d2, d3] }
  | _ => none }
def arithExactRow : OpenClaim := { program := "ytoobcngbnjeddaagreatdoor", sum := "4e640e6d10b32c8083f4a19322702c0adf90eb741a99d32520b13c60fa40b137", func := "exactreal/exactreallaw11.ArithExact", spec := "arithExact", unfollowed := true, recurses := true, named := ["math/bits.overflowError", "math/bits.deBruijn32tab"], apart := false, laid := [("math/bits.deBruijn32tab", laid_math_bits_deBruijn32tab)] }
def ArithExactSaid : Prop := arithExactRow.holds Tryz.pinned (OpenSpec.ofChange arithExactSpec)

/-- ITS FALSE NEIGHBOUR: 'it returns false'. Refute it at one input. -/
def arithExactWrong : ChangeSpec := { name := "arithExact", fn := fun _ => fun
  | [d1, d2, d3] => { results := [.lit (.bool false)], args := [d1, d2, d3] }
  | _ => none }
def ArithExactWrongFalsely : Prop := arithExactRow.holds Tryz.pinned (OpenSpec.ofChange arithExactWrong)

/-- 'exactreallaw11.ArithDivides': WHATEVER THE INPUT: true; the input reads as it did. -/
def arithDividesSpec : ChangeSpec := { name := "arithDivides", fn := fun _ => fun
  | [d1, d2, d3, d4] => { results := [.lit (.bool true)], args := [d1, d2, d3, d4] }
  | _ => none }
def arithDividesRow : OpenClaim := { program := "ytoobcngbnjeddaagreatdoor", sum := "4e640e6d10b32c8083f4a19322702c0adf90eb741a99d32520b13c60fa40b137", func := "exactreal/exactreallaw11.ArithDivides", spec := "arithDivides", unfollowed := true, recurses := true, named := ["math/bits.overflowError", "math/bits.deBruijn32tab"], apart := false, laid := [("math/bits.deBruijn32tab", laid_math_bits_deBruijn32tab)] }
def ArithDividesSaid : Prop := arithDividesRow.holds Tryz.pinned (OpenSpec.ofChange arithDividesSpec)

/-- ITS FALSE NEIGHBOUR: 'it returns false'. Refute it at one input. -/
def arithDividesWrong : ChangeSpec := { name := "arithDivides", fn := fun _ => fun
  | [d1, d2, d3, d4] => { results := [.lit (.bool false)], args := [d1, d2, d3, d4] }
  | _ => none }
def ArithDividesWrongFalsely : Prop := arithDividesRow.holds Tryz.pinned (OpenSpec.ofChange arithDividesWrong)

/-- 'exactreallaw11.ArithConst': WHATEVER THE INPUT: true; the input reads as it did. -/
def arithConstSpec : ChangeSpec := { name := "arithConst", fn := fun _ => fun
  | [d1, d2] => { results := [.lit (.bool true)], args := [d1, d2] }
  | _ => none }
def arithConstRow : OpenClaim := { program := "ytoobcngbnjeddaagreatdoor", sum := "4e640e6d10b32c8083f4a19322702c0adf90eb741a99d32520b13c60fa40b137", func := "exactreal/exactreallaw11.ArithConst", spec := "arithConst", unfollowed := true, recurses := true, named := ["math/bits.overflowError", "math/bits.deBruijn32tab"], apart := false, laid := [("math/bits.deBruijn32tab", laid_math_bits_deBruijn32tab)] }
def ArithConstSaid : Prop := arithConstRow.holds Tryz.pinned (OpenSpec.ofChange arithConstSpec)

/-- ITS FALSE NEIGHBOUR: 'it returns false'. Refute it at one input. -/
def arithConstWrong : ChangeSpec := { name := "arithConst", fn := fun _ => fun
  | [d1, d2] => { results := [.lit (.bool false)], args := [d1, d2] }
  | _ => none }
def ArithConstWrongFalsely : Prop := arithConstRow.holds Tryz.pinned (OpenSpec.ofChange arithConstWrong)

/-- 'exactreallaw11.ArithContains': WHATEVER THE INPUT: true; the input reads as it did. -/
def arithContainsSpec : ChangeSpec := { name := "arithContains", fn := fun _ => fun
  | [d1, d2, d3] => { results := [.lit (.bool true)], args := [d1, d2, d3] }
  | _ => none }
def arithContainsRow : OpenClaim := { program := "ytoobcngbnjeddaagreatdoor", sum := "4e640e6d10b32c8083f4a19322702c0adf90eb741a99d32520b13c60fa40b137", func := "exactreal/exactreallaw11.ArithContains", spec := "arithContains", unfollowed := true, recurses := true, named := ["math/bits.overflowError", "math/bits.deBruijn32tab"], apart := false, laid := [("math/bits.deBruijn32tab", laid_math_bits_deBruijn32tab)] }
def ArithContainsSaid : Prop := arithContainsRow.holds Tryz.pinned (OpenSpec.ofChange arithContainsSpec)

/-- ITS FALSE NEIGHBOUR: 'it returns false'. Refute it at one input. -/
def arithContainsWrong : ChangeSpec := { name := "arithContains", fn := fun _ => fun
  | [d1, d2, d3] => { results := [.lit (.bool false)], args := [d1, d2, d3] }
  | _ => none }
def ArithContainsWrongFalsely : Prop := arithContainsRow.holds Tryz.pinned (OpenSpec.ofChange arithContainsWrong)

/-- 'exactreallaw11.ArithShrinks': WHATEVER THE INPUT: true; the input reads as it did. -/
def arithShrinksSpec : ChangeSpec := { name := "arithShrinks", fn := fun _ => fun
  | [d1, d2, d3, d4] => { results := [.lit (.bool true)], args := [d1, d2, d3, d4] }
  | _ => none }
def arithShrinksRow : OpenClaim := { program := "ytoobcngbnjeddaagreatdoor", sum := "4e640e6d10b32c8083f4a19322702c0adf90eb741a99d32520b13c60fa40b137", func := "exactreal/exactreallaw11.ArithShrinks", spec := "arithShrinks", unfollowed := true, recurses := true, named := ["math/bits.overflowError", "math/bits.deBruijn32tab"], apart := false, laid := [("math/bits.deBruijn32tab", laid_math_bits_deBruijn32tab)] }
def ArithShrinksSaid : Prop := arithShrinksRow.holds Tryz.pinned (OpenSpec.ofChange arithShrinksSpec)

/-- ITS FALSE NEIGHBOUR: 'it returns false'. Refute it at one input. -/
def arithShrinksWrong : ChangeSpec := { name := "arithShrinks", fn := fun _ => fun
  | [d1, d2, d3, d4] => { results := [.lit (.bool false)], args := [d1, d2, d3, d4] }
  | _ => none }
def ArithShrinksWrongFalsely : Prop := arithShrinksRow.holds Tryz.pinned (OpenSpec.ofChange arithShrinksWrong)

/-- 'exactreallaw11.ArithLarge': WHATEVER THE INPUT: true; the input reads as it did. -/
def arithLargeSpec : ChangeSpec := { name := "arithLarge", fn := fun _ => fun
  | [d1, d2, d3, d4] => { results := [.lit (.bool true)], args := [d1, d2, d3, d4] }
  | _ => none }
def arithLargeRow : OpenClaim := { program := "ytoobcngbnjeddaagreatdoor", sum := "4e640e6d10b32c8083f4a19322702c0adf90eb741a99d32520b13c60fa40b137", func := "exactreal/exactreallaw11.ArithLarge", spec := "arithLarge", unfollowed := true, recurses := true, named := ["math/bits.overflowError", "math/bits.deBruijn32tab"], apart := false, laid := [("math/bits.deBruijn32tab", laid_math_bits_deBruijn32tab)] }
def ArithLargeSaid : Prop := arithLargeRow.holds Tryz.pinned (OpenSpec.ofChange arithLargeSpec)

/-- ITS FALSE NEIGHBOUR: 'it returns false'. Refute it at one input. -/
def arithLargeWrong : ChangeSpec := { name := "arithLarge", fn := fun _ => fun
  | [d1, d2, d3, d4] => { results := [.lit (.bool false)], args := [d1, d2, d3, d4] }
  | _ => none }
def ArithLargeWrongFalsely : Prop := arithLargeRow.holds Tryz.pinned (OpenSpec.ofChange arithLargeWrong)

/- THE SECOND FORM. 'bulk': how many values and letters a reading holds, each counted each time it is reached (what is shared counts as often as it is met; a slice's spare places count too). A statement '..UptoSaid' is the law's where the arguments, and the package variables that the reading takes, are together of bulk at most 1048576: NARROWER than '..Said'. Prove '..Said' where nothing that the law and all that it calls make is longer than what came in: it says more and counts as full. Else prove '..UptoSaid'. A law counts once. -/
mutual
def uptoBulk {H : Type} : DataW H → Nat
  | .lit (.string bytes) => bytes.length + 1
  | .lit _ => 1
  | .nil => 1
  | .ptr d => uptoBulk d + 1
  | .slice elems spare => uptoBulkAll elems + uptoBulkAll spare + 1
  | .agg parts => uptoBulkAll parts + 1
  | .iface _ d => uptoBulk d + 1
  | .map entries => uptoBulkEntries entries + 1
  | .held _ => 1
def uptoBulkAll {H : Type} : List (DataW H) → Nat
  | [] => 0
  | d :: r => uptoBulk d + uptoBulkAll r
def uptoBulkEntries {H : Type} : List (Lit × DataW H) → Nat
  | [] => 0
  | x :: r => uptoBulkEntry x + uptoBulkEntries r
def uptoBulkEntry {H : Type} : Lit × DataW H → Nat
  | (.string bytes, d) => bytes.length + uptoBulk d + 1
  | (_, d) => uptoBulk d + 1
 end
def uptoSmall : (H : Type) → List (DataW H) → Bool := fun _ ds => decide (uptoBulkAll ds ≤ 1048576)
def OpenSpec.upto (s : _root_.Go.ChangeSpec) : _root_.Go.OpenSpec := { _root_.Go.OpenSpec.ofChange s with cond := some uptoSmall }

/-- 'exactreallaw11.ArithExact', WHERE WHAT IT READS IS OF BULK AT MOST 1048576: true; the input reads as it did. -/
def arithExactUptoRow : OpenClaim := { program := "ytoobcngbnjeddaagreatdoor", sum := "4e640e6d10b32c8083f4a19322702c0adf90eb741a99d32520b13c60fa40b137", func := "exactreal/exactreallaw11.ArithExact", spec := "arithExact", unfollowed := true, recurses := true, named := ["math/bits.overflowError", "math/bits.deBruijn32tab"], apart := false, laid := [("math/bits.deBruijn32tab", laid_math_bits_deBruijn32tab)], narrowed := true }
def ArithExactUptoSaid : Prop := arithExactUptoRow.holds Tryz.pinned (OpenSpec.upto arithExactSpec)

/-- 'exactreallaw11.ArithDivides', WHERE WHAT IT READS IS OF BULK AT MOST 1048576: true; the input reads as it did. -/
def arithDividesUptoRow : OpenClaim := { program := "ytoobcngbnjeddaagreatdoor", sum := "4e640e6d10b32c8083f4a19322702c0adf90eb741a99d32520b13c60fa40b137", func := "exactreal/exactreallaw11.ArithDivides", spec := "arithDivides", unfollowed := true, recurses := true, named := ["math/bits.overflowError", "math/bits.deBruijn32tab"], apart := false, laid := [("math/bits.deBruijn32tab", laid_math_bits_deBruijn32tab)], narrowed := true }
def ArithDividesUptoSaid : Prop := arithDividesUptoRow.holds Tryz.pinned (OpenSpec.upto arithDividesSpec)

/-- 'exactreallaw11.ArithConst', WHERE WHAT IT READS IS OF BULK AT MOST 1048576: true; the input reads as it did. -/
def arithConstUptoRow : OpenClaim := { program := "ytoobcngbnjeddaagreatdoor", sum := "4e640e6d10b32c8083f4a19322702c0adf90eb741a99d32520b13c60fa40b137", func := "exactreal/exactreallaw11.ArithConst", spec := "arithConst", unfollowed := true, recurses := true, named := ["math/bits.overflowError", "math/bits.deBruijn32tab"], apart := false, laid := [("math/bits.deBruijn32tab", laid_math_bits_deBruijn32tab)], narrowed := true }
def ArithConstUptoSaid : Prop := arithConstUptoRow.holds Tryz.pinned (OpenSpec.upto arithConstSpec)

/-- 'exactreallaw11.ArithContains', WHERE WHAT IT READS IS OF BULK AT MOST 1048576: true; the input reads as it did. -/
def arithContainsUptoRow : OpenClaim := { program := "ytoobcngbnjeddaagreatdoor", sum := "4e640e6d10b32c8083f4a19322702c0adf90eb741a99d32520b13c60fa40b137", func := "exactreal/exactreallaw11.ArithContains", spec := "arithContains", unfollowed := true, recurses := true, named := ["math/bits.overflowError", "math/bits.deBruijn32tab"], apart := false, laid := [("math/bits.deBruijn32tab", laid_math_bits_deBruijn32tab)], narrowed := true }
def ArithContainsUptoSaid : Prop := arithContainsUptoRow.holds Tryz.pinned (OpenSpec.upto arithContainsSpec)

/-- 'exactreallaw11.ArithShrinks', WHERE WHAT IT READS IS OF BULK AT MOST 1048576: true; the input reads as it did. -/
def arithShrinksUptoRow : OpenClaim := { program := "ytoobcngbnjeddaagreatdoor", sum := "4e640e6d10b32c8083f4a19322702c0adf90eb741a99d32520b13c60fa40b137", func := "exactreal/exactreallaw11.ArithShrinks", spec := "arithShrinks", unfollowed := true, recurses := true, named := ["math/bits.overflowError", "math/bits.deBruijn32tab"], apart := false, laid := [("math/bits.deBruijn32tab", laid_math_bits_deBruijn32tab)], narrowed := true }
def ArithShrinksUptoSaid : Prop := arithShrinksUptoRow.holds Tryz.pinned (OpenSpec.upto arithShrinksSpec)

/-- 'exactreallaw11.ArithLarge', WHERE WHAT IT READS IS OF BULK AT MOST 1048576: true; the input reads as it did. -/
def arithLargeUptoRow : OpenClaim := { program := "ytoobcngbnjeddaagreatdoor", sum := "4e640e6d10b32c8083f4a19322702c0adf90eb741a99d32520b13c60fa40b137", func := "exactreal/exactreallaw11.ArithLarge", spec := "arithLarge", unfollowed := true, recurses := true, named := ["math/bits.overflowError", "math/bits.deBruijn32tab"], apart := false, laid := [("math/bits.deBruijn32tab", laid_math_bits_deBruijn32tab)], narrowed := true }
def ArithLargeUptoSaid : Prop := arithLargeUptoRow.holds Tryz.pinned (OpenSpec.upto arithLargeSpec)

end Rows
end Go.Proofs.YtoobcngbnjeddaaGreatDoor
