/-
  NARROWER THAN 'FOR EVERY INPUT', by the rows' own cells (each row's printed sentence says how): ArctangentClose: laid · ArctangentFar: laid · CircularClose: laid · CircularFar: laid · CircularTurns: laid · CircularEnds: laid · CircularSquares: laid · CircularDoubles: laid · CircularQuarters: laid.
  DERIVED. THE GIVEN ROWS OF THIS SEAT. 9 by the template 'for every input the law returns true; each argument reads behind the call as it read before'; 0 by the template 'total and deterministic' (their statements: YtiddbhhhmeopeaaGreatDoorTotals.lean).
  GIVEN WITH THE SEED: the statements are not yours to turn. If you find one false, say at which input.
  Laid BY PROGRAM, IN A SANDBOX (cutbox-rows.mjs): the forced cells as the released guide's own fill.sh prints them over the translation e2d00c883c72f623… (all of the seat's roots in one cut). By AI agents, Wed Nov 11 2026. No macro, syntax, notation, axiom, sorry.
-/
import Derived.Test.YtiddbhhhmeopeaaGreatDoorChecked
import GoSem.Claim
import GoSem.ClaimJoined
import GoSem.ClaimMapViews
import Derived.JoinedTies
import Derived.KernelRfl
namespace Go.Proofs.YtiddbhhhmeopeaaGreatDoor
/- THE CELL 'sum', in the pinned program and in every row, IS THE sha256 OF THE DUMP (.gsa) THAT YtiddbhhhmeopeaaGreatDoorProg.lean LOADS. Nothing in Lean hashes anything: it is a label: what it is worth is what the hold of that sum in a sandbox is worth. -/
noncomputable def Tryz.pinned : Pinned := { name := "ytiddbhhhmeopeaagreatdoor", sum := "e2d00c883c72f62336669d66a51e952ce088d62bd0cb4d32368be57cd6d21a1c", checked := Tryz.checked }
namespace Rows
def none {H : Type} : Left H := { results := [], args := [] }

/- WHAT THE LISTED PACKAGE-LEVEL VARIABLES READ AS WHEN THE CALL BEGINS. Each datum BY PROGRAM (the guide's laid-datum.mjs) off the statement by which the dump's own 'gosem.cut.vars' lays the variable. In a bare row this is a premise. The card (YtiddbhhhmeopeaaGreatDoorCards.lean) ties it to the program's text. -/
def laid_math_bits_deBruijn32tab {H : Type} : DataW H := .agg [.lit (.int .u8 0), .lit (.int .u8 1), .lit (.int .u8 28), .lit (.int .u8 2), .lit (.int .u8 29), .lit (.int .u8 14), .lit (.int .u8 24), .lit (.int .u8 3), .lit (.int .u8 30), .lit (.int .u8 22), .lit (.int .u8 20), .lit (.int .u8 15), .lit (.int .u8 25), .lit (.int .u8 17), .lit (.int .u8 4), .lit (.int .u8 8), .lit (.int .u8 31), .lit (.int .u8 27), .lit (.int .u8 13), .lit (.int .u8 23), .lit (.int .u8 21), .lit (.int .u8 19), .lit (.int .u8 16), .lit (.int .u8 7), .lit (.int .u8 26), .lit (.int .u8 12), .lit (.int .u8 18), .lit (.int .u8 6), .lit (.int .u8 11), .lit (.int .u8 5), .lit (.int .u8 10), .lit (.int .u8 9)]

/-- 'exactreallaw16.ArctangentClose': WHATEVER THE INPUT: true; the input reads as it did. -/
def arctangentCloseSpec : ChangeSpec := { name := "arctangentClose", fn := fun _ => fun
  | [d1, d2, d3] => { results := [.lit (.bool true)], args := [d1, d2, d3] }
  | _ => none }
def arctangentCloseRow : OpenClaim := { program := "ytiddbhhhmeopeaagreatdoor", sum := "e2d00c883c72f62336669d66a51e952ce088d62bd0cb4d32368be57cd6d21a1c", func := "exactreal/exactreallaw16.ArctangentClose", spec := "arctangentClose", unfollowed := true, recurses := true, named := ["math/bits.deBruijn32tab", "math/bits.overflowError"], apart := false, laid := [("math/bits.deBruijn32tab", laid_math_bits_deBruijn32tab)] }
def ArctangentCloseSaid : Prop := arctangentCloseRow.holds Tryz.pinned (OpenSpec.ofChange arctangentCloseSpec)

/-- ITS FALSE NEIGHBOUR: 'it returns false'. Refute it at one input. -/
def arctangentCloseWrong : ChangeSpec := { name := "arctangentClose", fn := fun _ => fun
  | [d1, d2, d3] => { results := [.lit (.bool false)], args := [d1, d2, d3] }
  | _ => none }
def ArctangentCloseWrongFalsely : Prop := arctangentCloseRow.holds Tryz.pinned (OpenSpec.ofChange arctangentCloseWrong)

/-- 'exactreallaw16.ArctangentFar': WHATEVER THE INPUT: true; the input reads as it did. -/
def arctangentFarSpec : ChangeSpec := { name := "arctangentFar", fn := fun _ => fun
  | [d1, d2, d3] => { results := [.lit (.bool true)], args := [d1, d2, d3] }
  | _ => none }
def arctangentFarRow : OpenClaim := { program := "ytiddbhhhmeopeaagreatdoor", sum := "e2d00c883c72f62336669d66a51e952ce088d62bd0cb4d32368be57cd6d21a1c", func := "exactreal/exactreallaw16.ArctangentFar", spec := "arctangentFar", unfollowed := true, recurses := true, named := ["math/bits.deBruijn32tab", "math/bits.overflowError"], apart := false, laid := [("math/bits.deBruijn32tab", laid_math_bits_deBruijn32tab)] }
def ArctangentFarSaid : Prop := arctangentFarRow.holds Tryz.pinned (OpenSpec.ofChange arctangentFarSpec)

/-- ITS FALSE NEIGHBOUR: 'it returns false'. Refute it at one input. -/
def arctangentFarWrong : ChangeSpec := { name := "arctangentFar", fn := fun _ => fun
  | [d1, d2, d3] => { results := [.lit (.bool false)], args := [d1, d2, d3] }
  | _ => none }
def ArctangentFarWrongFalsely : Prop := arctangentFarRow.holds Tryz.pinned (OpenSpec.ofChange arctangentFarWrong)

/-- 'exactreallaw17.CircularClose': WHATEVER THE INPUT: true; the input reads as it did. -/
def circularCloseSpec : ChangeSpec := { name := "circularClose", fn := fun _ => fun
  | [d1, d2, d3] => { results := [.lit (.bool true)], args := [d1, d2, d3] }
  | _ => none }
def circularCloseRow : OpenClaim := { program := "ytiddbhhhmeopeaagreatdoor", sum := "e2d00c883c72f62336669d66a51e952ce088d62bd0cb4d32368be57cd6d21a1c", func := "exactreal/exactreallaw17.CircularClose", spec := "circularClose", unfollowed := true, recurses := true, named := ["math/bits.deBruijn32tab", "math/bits.overflowError"], apart := false, laid := [("math/bits.deBruijn32tab", laid_math_bits_deBruijn32tab)] }
def CircularCloseSaid : Prop := circularCloseRow.holds Tryz.pinned (OpenSpec.ofChange circularCloseSpec)

/-- ITS FALSE NEIGHBOUR: 'it returns false'. Refute it at one input. -/
def circularCloseWrong : ChangeSpec := { name := "circularClose", fn := fun _ => fun
  | [d1, d2, d3] => { results := [.lit (.bool false)], args := [d1, d2, d3] }
  | _ => none }
def CircularCloseWrongFalsely : Prop := circularCloseRow.holds Tryz.pinned (OpenSpec.ofChange circularCloseWrong)

/-- 'exactreallaw17.CircularFar': WHATEVER THE INPUT: true; the input reads as it did. -/
def circularFarSpec : ChangeSpec := { name := "circularFar", fn := fun _ => fun
  | [d1, d2, d3, d4] => { results := [.lit (.bool true)], args := [d1, d2, d3, d4] }
  | _ => none }
def circularFarRow : OpenClaim := { program := "ytiddbhhhmeopeaagreatdoor", sum := "e2d00c883c72f62336669d66a51e952ce088d62bd0cb4d32368be57cd6d21a1c", func := "exactreal/exactreallaw17.CircularFar", spec := "circularFar", unfollowed := true, recurses := true, named := ["math/bits.deBruijn32tab", "math/bits.overflowError"], apart := false, laid := [("math/bits.deBruijn32tab", laid_math_bits_deBruijn32tab)] }
def CircularFarSaid : Prop := circularFarRow.holds Tryz.pinned (OpenSpec.ofChange circularFarSpec)

/-- ITS FALSE NEIGHBOUR: 'it returns false'. Refute it at one input. -/
def circularFarWrong : ChangeSpec := { name := "circularFar", fn := fun _ => fun
  | [d1, d2, d3, d4] => { results := [.lit (.bool false)], args := [d1, d2, d3, d4] }
  | _ => none }
def CircularFarWrongFalsely : Prop := circularFarRow.holds Tryz.pinned (OpenSpec.ofChange circularFarWrong)

/-- 'exactreallaw17.CircularTurns': WHATEVER THE INPUT: true; the input reads as it did. -/
def circularTurnsSpec : ChangeSpec := { name := "circularTurns", fn := fun _ => fun
  | [d1, d2, d3, d4] => { results := [.lit (.bool true)], args := [d1, d2, d3, d4] }
  | _ => none }
def circularTurnsRow : OpenClaim := { program := "ytiddbhhhmeopeaagreatdoor", sum := "e2d00c883c72f62336669d66a51e952ce088d62bd0cb4d32368be57cd6d21a1c", func := "exactreal/exactreallaw17.CircularTurns", spec := "circularTurns", unfollowed := true, recurses := true, named := ["math/bits.deBruijn32tab", "math/bits.overflowError"], apart := false, laid := [("math/bits.deBruijn32tab", laid_math_bits_deBruijn32tab)] }
def CircularTurnsSaid : Prop := circularTurnsRow.holds Tryz.pinned (OpenSpec.ofChange circularTurnsSpec)

/-- ITS FALSE NEIGHBOUR: 'it returns false'. Refute it at one input. -/
def circularTurnsWrong : ChangeSpec := { name := "circularTurns", fn := fun _ => fun
  | [d1, d2, d3, d4] => { results := [.lit (.bool false)], args := [d1, d2, d3, d4] }
  | _ => none }
def CircularTurnsWrongFalsely : Prop := circularTurnsRow.holds Tryz.pinned (OpenSpec.ofChange circularTurnsWrong)

/-- 'exactreallaw17.CircularEnds': WHATEVER THE INPUT: true; the input reads as it did. -/
def circularEndsSpec : ChangeSpec := { name := "circularEnds", fn := fun _ => fun
  | [d1, d2, d3] => { results := [.lit (.bool true)], args := [d1, d2, d3] }
  | _ => none }
def circularEndsRow : OpenClaim := { program := "ytiddbhhhmeopeaagreatdoor", sum := "e2d00c883c72f62336669d66a51e952ce088d62bd0cb4d32368be57cd6d21a1c", func := "exactreal/exactreallaw17.CircularEnds", spec := "circularEnds", unfollowed := true, recurses := true, named := ["math/bits.deBruijn32tab", "math/bits.overflowError"], apart := false, laid := [("math/bits.deBruijn32tab", laid_math_bits_deBruijn32tab)] }
def CircularEndsSaid : Prop := circularEndsRow.holds Tryz.pinned (OpenSpec.ofChange circularEndsSpec)

/-- ITS FALSE NEIGHBOUR: 'it returns false'. Refute it at one input. -/
def circularEndsWrong : ChangeSpec := { name := "circularEnds", fn := fun _ => fun
  | [d1, d2, d3] => { results := [.lit (.bool false)], args := [d1, d2, d3] }
  | _ => none }
def CircularEndsWrongFalsely : Prop := circularEndsRow.holds Tryz.pinned (OpenSpec.ofChange circularEndsWrong)

/-- 'exactreallaw17.CircularSquares': WHATEVER THE INPUT: true; the input reads as it did. -/
def circularSquaresSpec : ChangeSpec := { name := "circularSquares", fn := fun _ => fun
  | [d1, d2] => { results := [.lit (.bool true)], args := [d1, d2] }
  | _ => none }
def circularSquaresRow : OpenClaim := { program := "ytiddbhhhmeopeaagreatdoor", sum := "e2d00c883c72f62336669d66a51e952ce088d62bd0cb4d32368be57cd6d21a1c", func := "exactreal/exactreallaw17.CircularSquares", spec := "circularSquares", unfollowed := true, recurses := true, named := ["math/bits.deBruijn32tab", "math/bits.overflowError"], apart := false, laid := [("math/bits.deBruijn32tab", laid_math_bits_deBruijn32tab)] }
def CircularSquaresSaid : Prop := circularSquaresRow.holds Tryz.pinned (OpenSpec.ofChange circularSquaresSpec)

/-- ITS FALSE NEIGHBOUR: 'it returns false'. Refute it at one input. -/
def circularSquaresWrong : ChangeSpec := { name := "circularSquares", fn := fun _ => fun
  | [d1, d2] => { results := [.lit (.bool false)], args := [d1, d2] }
  | _ => none }
def CircularSquaresWrongFalsely : Prop := circularSquaresRow.holds Tryz.pinned (OpenSpec.ofChange circularSquaresWrong)

/-- 'exactreallaw17.CircularDoubles': WHATEVER THE INPUT: true; the input reads as it did. -/
def circularDoublesSpec : ChangeSpec := { name := "circularDoubles", fn := fun _ => fun
  | [d1, d2] => { results := [.lit (.bool true)], args := [d1, d2] }
  | _ => none }
def circularDoublesRow : OpenClaim := { program := "ytiddbhhhmeopeaagreatdoor", sum := "e2d00c883c72f62336669d66a51e952ce088d62bd0cb4d32368be57cd6d21a1c", func := "exactreal/exactreallaw17.CircularDoubles", spec := "circularDoubles", unfollowed := true, recurses := true, named := ["math/bits.deBruijn32tab", "math/bits.overflowError"], apart := false, laid := [("math/bits.deBruijn32tab", laid_math_bits_deBruijn32tab)] }
def CircularDoublesSaid : Prop := circularDoublesRow.holds Tryz.pinned (OpenSpec.ofChange circularDoublesSpec)

/-- ITS FALSE NEIGHBOUR: 'it returns false'. Refute it at one input. -/
def circularDoublesWrong : ChangeSpec := { name := "circularDoubles", fn := fun _ => fun
  | [d1, d2] => { results := [.lit (.bool false)], args := [d1, d2] }
  | _ => none }
def CircularDoublesWrongFalsely : Prop := circularDoublesRow.holds Tryz.pinned (OpenSpec.ofChange circularDoublesWrong)

/-- 'exactreallaw17.CircularQuarters': WHATEVER THE INPUT: true; the input reads as it did. -/
def circularQuartersSpec : ChangeSpec := { name := "circularQuarters", fn := fun _ => fun
  | [d1, d2] => { results := [.lit (.bool true)], args := [d1, d2] }
  | _ => none }
def circularQuartersRow : OpenClaim := { program := "ytiddbhhhmeopeaagreatdoor", sum := "e2d00c883c72f62336669d66a51e952ce088d62bd0cb4d32368be57cd6d21a1c", func := "exactreal/exactreallaw17.CircularQuarters", spec := "circularQuarters", unfollowed := true, recurses := true, named := ["math/bits.deBruijn32tab", "math/bits.overflowError"], apart := false, laid := [("math/bits.deBruijn32tab", laid_math_bits_deBruijn32tab)] }
def CircularQuartersSaid : Prop := circularQuartersRow.holds Tryz.pinned (OpenSpec.ofChange circularQuartersSpec)

/-- ITS FALSE NEIGHBOUR: 'it returns false'. Refute it at one input. -/
def circularQuartersWrong : ChangeSpec := { name := "circularQuarters", fn := fun _ => fun
  | [d1, d2] => { results := [.lit (.bool false)], args := [d1, d2] }
  | _ => none }
def CircularQuartersWrongFalsely : Prop := circularQuartersRow.holds Tryz.pinned (OpenSpec.ofChange circularQuartersWrong)

/- THE SECOND FORM. 'bulk': how many values and letters a reading holds, each counted each time it is reached (what is shared counts as often as it is met; a slice's spare places count too). A statement '..UptoSaid' is the law's where the arguments, and the package variables that the reading takes, are together of bulk at most 1048576: NARROWER than '..Said'. Prove '..Said' where nothing that the law and all that it calls make is longer than what came in: it says more and counts as full. Else prove '..UptoSaid'. A law counts once. -/
mutual
def uptoBulk {H : Type} : DataW H → Nat
  | .lit (.string bytes) => bytes.length + 1
  | .lit _ => 1
  | .nil => 1
  | .ptr d => uptoBulk d + 1
  | .slice elems spare => uptoBulkAll elems + uptoBulkAll spare + 1
  | .agg parts => uptoBulkAll parts + 1
  | .iface _ d => uptoBulk d + 1
  | .map entries => uptoBulkEntries entries + 1
  | .held _ => 1
def uptoBulkAll {H : Type} : List (DataW H) → Nat
  | [] => 0
  | d :: r => uptoBulk d + uptoBulkAll r
def uptoBulkEntries {H : Type} : List (Lit × DataW H) → Nat
  | [] => 0
  | x :: r => uptoBulkEntry x + uptoBulkEntries r
def uptoBulkEntry {H : Type} : Lit × DataW H → Nat
  | (.string bytes, d) => bytes.length + uptoBulk d + 1
  | (_, d) => uptoBulk d + 1
 end
def uptoSmall : (H : Type) → List (DataW H) → Bool := fun _ ds => decide (uptoBulkAll ds ≤ 1048576)
def OpenSpec.upto (s : _root_.Go.ChangeSpec) : _root_.Go.OpenSpec := { _root_.Go.OpenSpec.ofChange s with cond := some uptoSmall }

/-- 'exactreallaw16.ArctangentClose', WHERE WHAT IT READS IS OF BULK AT MOST 1048576: true; the input reads as it did. -/
def arctangentCloseUptoRow : OpenClaim := { program := "ytiddbhhhmeopeaagreatdoor", sum := "e2d00c883c72f62336669d66a51e952ce088d62bd0cb4d32368be57cd6d21a1c", func := "exactreal/exactreallaw16.ArctangentClose", spec := "arctangentClose", unfollowed := true, recurses := true, named := ["math/bits.deBruijn32tab", "math/bits.overflowError"], apart := false, laid := [("math/bits.deBruijn32tab", laid_math_bits_deBruijn32tab)], narrowed := true }
def ArctangentCloseUptoSaid : Prop := arctangentCloseUptoRow.holds Tryz.pinned (OpenSpec.upto arctangentCloseSpec)

/-- 'exactreallaw16.ArctangentFar', WHERE WHAT IT READS IS OF BULK AT MOST 1048576: true; the input reads as it did. -/
def arctangentFarUptoRow : OpenClaim := { program := "ytiddbhhhmeopeaagreatdoor", sum := "e2d00c883c72f62336669d66a51e952ce088d62bd0cb4d32368be57cd6d21a1c", func := "exactreal/exactreallaw16.ArctangentFar", spec := "arctangentFar", unfollowed := true, recurses := true, named := ["math/bits.deBruijn32tab", "math/bits.overflowError"], apart := false, laid := [("math/bits.deBruijn32tab", laid_math_bits_deBruijn32tab)], narrowed := true }
def ArctangentFarUptoSaid : Prop := arctangentFarUptoRow.holds Tryz.pinned (OpenSpec.upto arctangentFarSpec)

/-- 'exactreallaw17.CircularClose', WHERE WHAT IT READS IS OF BULK AT MOST 1048576: true; the input reads as it did. -/
def circularCloseUptoRow : OpenClaim := { program := "ytiddbhhhmeopeaagreatdoor", sum := "e2d00c883c72f62336669d66a51e952ce088d62bd0cb4d32368be57cd6d21a1c", func := "exactreal/exactreallaw17.CircularClose", spec := "circularClose", unfollowed := true, recurses := true, named := ["math/bits.deBruijn32tab", "math/bits.overflowError"], apart := false, laid := [("math/bits.deBruijn32tab", laid_math_bits_deBruijn32tab)], narrowed := true }
def CircularCloseUptoSaid : Prop := circularCloseUptoRow.holds Tryz.pinned (OpenSpec.upto circularCloseSpec)

/-- 'exactreallaw17.CircularFar', WHERE WHAT IT READS IS OF BULK AT MOST 1048576: true; the input reads as it did. -/
def circularFarUptoRow : OpenClaim := { program := "ytiddbhhhmeopeaagreatdoor", sum := "e2d00c883c72f62336669d66a51e952ce088d62bd0cb4d32368be57cd6d21a1c", func := "exactreal/exactreallaw17.CircularFar", spec := "circularFar", unfollowed := true, recurses := true, named := ["math/bits.deBruijn32tab", "math/bits.overflowError"], apart := false, laid := [("math/bits.deBruijn32tab", laid_math_bits_deBruijn32tab)], narrowed := true }
def CircularFarUptoSaid : Prop := circularFarUptoRow.holds Tryz.pinned (OpenSpec.upto circularFarSpec)

/-- 'exactreallaw17.CircularTurns', WHERE WHAT IT READS IS OF BULK AT MOST 1048576: true; the input reads as it did. -/
def circularTurnsUptoRow : OpenClaim := { program := "ytiddbhhhmeopeaagreatdoor", sum := "e2d00c883c72f62336669d66a51e952ce088d62bd0cb4d32368be57cd6d21a1c", func := "exactreal/exactreallaw17.CircularTurns", spec := "circularTurns", unfollowed := true, recurses := true, named := ["math/bits.deBruijn32tab", "math/bits.overflowError"], apart := false, laid := [("math/bits.deBruijn32tab", laid_math_bits_deBruijn32tab)], narrowed := true }
def CircularTurnsUptoSaid : Prop := circularTurnsUptoRow.holds Tryz.pinned (OpenSpec.upto circularTurnsSpec)

/-- 'exactreallaw17.CircularEnds', WHERE WHAT IT READS IS OF BULK AT MOST 1048576: true; the input reads as it did. -/
def circularEndsUptoRow : OpenClaim := { program := "ytiddbhhhmeopeaagreatdoor", sum := "e2d00c883c72f62336669d66a51e952ce088d62bd0cb4d32368be57cd6d21a1c", func := "exactreal/exactreallaw17.CircularEnds", spec := "circularEnds", unfollowed := true, recurses := true, named := ["math/bits.deBruijn32tab", "math/bits.overflowError"], apart := false, laid := [("math/bits.deBruijn32tab", laid_math_bits_deBruijn32tab)], narrowed := true }
def CircularEndsUptoSaid : Prop := circularEndsUptoRow.holds Tryz.pinned (OpenSpec.upto circularEndsSpec)

/-- 'exactreallaw17.CircularSquares', WHERE WHAT IT READS IS OF BULK AT MOST 1048576: true; the input reads as it did. -/
def circularSquaresUptoRow : OpenClaim := { program := "ytiddbhhhmeopeaagreatdoor", sum := "e2d00c883c72f62336669d66a51e952ce088d62bd0cb4d32368be57cd6d21a1c", func := "exactreal/exactreallaw17.CircularSquares", spec := "circularSquares", unfollowed := true, recurses := true, named := ["math/bits.deBruijn32tab", "math/bits.overflowError"], apart := false, laid := [("math/bits.deBruijn32tab", laid_math_bits_deBruijn32tab)], narrowed := true }
def CircularSquaresUptoSaid : Prop := circularSquaresUptoRow.holds Tryz.pinned (OpenSpec.upto circularSquaresSpec)

/-- 'exactreallaw17.CircularDoubles', WHERE WHAT IT READS IS OF BULK AT MOST 1048576: true; the input reads as it did. -/
def circularDoublesUptoRow : OpenClaim := { program := "ytiddbhhhmeopeaagreatdoor", sum := "e2d00c883c72f62336669d66a51e952ce088d62bd0cb4d32368be57cd6d21a1c", func := "exactreal/exactreallaw17.CircularDoubles", spec := "circularDoubles", unfollowed := true, recurses := true, named := ["math/bits.deBruijn32tab", "math/bits.overflowError"], apart := false, laid := [("math/bits.deBruijn32tab", laid_math_bits_deBruijn32tab)], narrowed := true }
def CircularDoublesUptoSaid : Prop := circularDoublesUptoRow.holds Tryz.pinned (OpenSpec.upto circularDoublesSpec)

/-- 'exactreallaw17.CircularQuarters', WHERE WHAT IT READS IS OF BULK AT MOST 1048576: true; the input reads as it did. -/
def circularQuartersUptoRow : OpenClaim := { program := "ytiddbhhhmeopeaagreatdoor", sum := "e2d00c883c72f62336669d66a51e952ce088d62bd0cb4d32368be57cd6d21a1c", func := "exactreal/exactreallaw17.CircularQuarters", spec := "circularQuarters", unfollowed := true, recurses := true, named := ["math/bits.deBruijn32tab", "math/bits.overflowError"], apart := false, laid := [("math/bits.deBruijn32tab", laid_math_bits_deBruijn32tab)], narrowed := true }
def CircularQuartersUptoSaid : Prop := circularQuartersUptoRow.holds Tryz.pinned (OpenSpec.upto circularQuartersSpec)

end Rows
end Go.Proofs.YtiddbhhhmeopeaaGreatDoor
