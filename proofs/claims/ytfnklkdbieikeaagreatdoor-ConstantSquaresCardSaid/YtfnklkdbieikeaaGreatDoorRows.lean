/-
  NARROWER THAN 'FOR EVERY INPUT', by the rows' own cells (each row's printed sentence says how): ConstantTight: laid · ConstantMeets: laid · ConstantRange: laid · ConstantTightness: laid · ConstantSquares: laid.
  DERIVED. THE GIVEN ROWS OF THIS SEAT. 5 by the template 'for every input the law returns true; each argument reads behind the call as it read before'; 0 by the template 'total and deterministic' (their statements: YtfnklkdbieikeaaGreatDoorTotals.lean).
  GIVEN WITH THE SEED: the statements are not yours to turn. If you find one false, say at which input.
  Laid BY PROGRAM, IN A SANDBOX (cutbox-rows.mjs): the forced cells as the released guide's own fill.sh prints them over the translation 8bd7e8d7552cf321… (all of the seat's roots in one cut). By AI agents, Wed Nov 11 2026. No macro, syntax, notation, axiom, sorry.
-/
import Derived.Test.YtfnklkdbieikeaaGreatDoorChecked
import GoSem.Claim
import GoSem.ClaimJoined
import GoSem.ClaimMapViews
import Derived.JoinedTies
import Derived.KernelRfl
namespace Go.Proofs.YtfnklkdbieikeaaGreatDoor
/- THE CELL 'sum', in the pinned program and in every row, IS THE sha256 OF THE DUMP (.gsa) THAT YtfnklkdbieikeaaGreatDoorProg.lean LOADS. Nothing in Lean hashes anything: it is a label: what it is worth is what the hold of that sum in a sandbox is worth. -/
noncomputable def Tryz.pinned : Pinned := { name := "ytfnklkdbieikeaagreatdoor", sum := "8bd7e8d7552cf3214b610e728c21097c7902e82f8f53c43cd0df11f2bfb65ff6", checked := Tryz.checked }
namespace Rows
def none {H : Type} : Left H := { results := [], args := [] }

/- WHAT THE LISTED PACKAGE-LEVEL VARIABLES READ AS WHEN THE CALL BEGINS. Each datum BY PROGRAM (the guide's laid-datum.mjs) off the statement by which the dump's own 'gosem.cut.vars' lays the variable. In a bare row this is a premise. The card (YtfnklkdbieikeaaGreatDoorCards.lean) ties it to the program's text. -/
def laid_math_bits_deBruijn32tab {H : Type} : DataW H := .agg [.lit (.int .u8 0), .lit (.int .u8 1), .lit (.int .u8 28), .lit (.int .u8 2), .lit (.int .u8 29), .lit (.int .u8 14), .lit (.int .u8 24), .lit (.int .u8 3), .lit (.int .u8 30), .lit (.int .u8 22), .lit (.int .u8 20), .lit (.int .u8 15), .lit (.int .u8 25), .lit (.int .u8 17), .lit (.int .u8 4), .lit (.int .u8 8), .lit (.int .u8 31), .lit (.int .u8 27), .lit (.int .u8 13), .lit (.int .u8 23), .lit (.int .u8 21), .lit (.int .u8 19), .lit (.int .u8 16), .lit (.int .u8 7), .lit (.int .u8 26), .lit (.int .u8 12), .lit (.int .u8 18), .lit (.int .u8 6), .lit (.int .u8 11), .lit (.int .u8 5), .lit (.int .u8 10), .lit (.int .u8 9)]

/-- 'exactreallaw13.ConstantTight': WHATEVER THE INPUT: true; the input reads as it did. -/
def constantTightSpec : ChangeSpec := { name := "constantTight", fn := fun _ => fun
  | [d] => { results := [.lit (.bool true)], args := [d] }
  | _ => none }
def constantTightRow : OpenClaim := { program := "ytfnklkdbieikeaagreatdoor", sum := "8bd7e8d7552cf3214b610e728c21097c7902e82f8f53c43cd0df11f2bfb65ff6", func := "exactreal/exactreallaw13.ConstantTight", spec := "constantTight", unfollowed := true, recurses := true, named := ["math/bits.overflowError", "math/bits.deBruijn32tab"], apart := false, laid := [("math/bits.deBruijn32tab", laid_math_bits_deBruijn32tab)] }
def ConstantTightSaid : Prop := constantTightRow.holds Tryz.pinned (OpenSpec.ofChange constantTightSpec)

/-- ITS FALSE NEIGHBOUR: 'it returns false'. Refute it at one input. -/
def constantTightWrong : ChangeSpec := { name := "constantTight", fn := fun _ => fun
  | [d] => { results := [.lit (.bool false)], args := [d] }
  | _ => none }
def ConstantTightWrongFalsely : Prop := constantTightRow.holds Tryz.pinned (OpenSpec.ofChange constantTightWrong)

/-- 'exactreallaw13.ConstantMeets': WHATEVER THE INPUT: true; the input reads as it did. -/
def constantMeetsSpec : ChangeSpec := { name := "constantMeets", fn := fun _ => fun
  | [d1, d2] => { results := [.lit (.bool true)], args := [d1, d2] }
  | _ => none }
def constantMeetsRow : OpenClaim := { program := "ytfnklkdbieikeaagreatdoor", sum := "8bd7e8d7552cf3214b610e728c21097c7902e82f8f53c43cd0df11f2bfb65ff6", func := "exactreal/exactreallaw13.ConstantMeets", spec := "constantMeets", unfollowed := true, recurses := true, named := ["math/bits.overflowError", "math/bits.deBruijn32tab"], apart := false, laid := [("math/bits.deBruijn32tab", laid_math_bits_deBruijn32tab)] }
def ConstantMeetsSaid : Prop := constantMeetsRow.holds Tryz.pinned (OpenSpec.ofChange constantMeetsSpec)

/-- ITS FALSE NEIGHBOUR: 'it returns false'. Refute it at one input. -/
def constantMeetsWrong : ChangeSpec := { name := "constantMeets", fn := fun _ => fun
  | [d1, d2] => { results := [.lit (.bool false)], args := [d1, d2] }
  | _ => none }
def ConstantMeetsWrongFalsely : Prop := constantMeetsRow.holds Tryz.pinned (OpenSpec.ofChange constantMeetsWrong)

/-- 'exactreallaw13.ConstantRange': WHATEVER THE INPUT: true; the input reads as it did. -/
def constantRangeSpec : ChangeSpec := { name := "constantRange", fn := fun _ => fun
  | [d] => { results := [.lit (.bool true)], args := [d] }
  | _ => none }
def constantRangeRow : OpenClaim := { program := "ytfnklkdbieikeaagreatdoor", sum := "8bd7e8d7552cf3214b610e728c21097c7902e82f8f53c43cd0df11f2bfb65ff6", func := "exactreal/exactreallaw13.ConstantRange", spec := "constantRange", unfollowed := true, recurses := true, named := ["math/bits.overflowError", "math/bits.deBruijn32tab"], apart := false, laid := [("math/bits.deBruijn32tab", laid_math_bits_deBruijn32tab)] }
def ConstantRangeSaid : Prop := constantRangeRow.holds Tryz.pinned (OpenSpec.ofChange constantRangeSpec)

/-- ITS FALSE NEIGHBOUR: 'it returns false'. Refute it at one input. -/
def constantRangeWrong : ChangeSpec := { name := "constantRange", fn := fun _ => fun
  | [d] => { results := [.lit (.bool false)], args := [d] }
  | _ => none }
def ConstantRangeWrongFalsely : Prop := constantRangeRow.holds Tryz.pinned (OpenSpec.ofChange constantRangeWrong)

/-- 'exactreallaw13.ConstantTightness': WHATEVER THE INPUT: true; the input reads as it did. -/
def constantTightnessSpec : ChangeSpec := { name := "constantTightness", fn := fun _ => fun
  | [d1, d2, d3] => { results := [.lit (.bool true)], args := [d1, d2, d3] }
  | _ => none }
def constantTightnessRow : OpenClaim := { program := "ytfnklkdbieikeaagreatdoor", sum := "8bd7e8d7552cf3214b610e728c21097c7902e82f8f53c43cd0df11f2bfb65ff6", func := "exactreal/exactreallaw13.ConstantTightness", spec := "constantTightness", unfollowed := true, recurses := true, named := ["math/bits.overflowError", "math/bits.deBruijn32tab"], apart := false, laid := [("math/bits.deBruijn32tab", laid_math_bits_deBruijn32tab)] }
def ConstantTightnessSaid : Prop := constantTightnessRow.holds Tryz.pinned (OpenSpec.ofChange constantTightnessSpec)

/-- ITS FALSE NEIGHBOUR: 'it returns false'. Refute it at one input. -/
def constantTightnessWrong : ChangeSpec := { name := "constantTightness", fn := fun _ => fun
  | [d1, d2, d3] => { results := [.lit (.bool false)], args := [d1, d2, d3] }
  | _ => none }
def ConstantTightnessWrongFalsely : Prop := constantTightnessRow.holds Tryz.pinned (OpenSpec.ofChange constantTightnessWrong)

/-- 'exactreallaw13.ConstantSquares': WHATEVER THE INPUT: true; the input reads as it did. -/
def constantSquaresSpec : ChangeSpec := { name := "constantSquares", fn := fun _ => fun
  | [d] => { results := [.lit (.bool true)], args := [d] }
  | _ => none }
def constantSquaresRow : OpenClaim := { program := "ytfnklkdbieikeaagreatdoor", sum := "8bd7e8d7552cf3214b610e728c21097c7902e82f8f53c43cd0df11f2bfb65ff6", func := "exactreal/exactreallaw13.ConstantSquares", spec := "constantSquares", unfollowed := true, recurses := true, named := ["math/bits.overflowError", "math/bits.deBruijn32tab"], apart := false, laid := [("math/bits.deBruijn32tab", laid_math_bits_deBruijn32tab)] }
def ConstantSquaresSaid : Prop := constantSquaresRow.holds Tryz.pinned (OpenSpec.ofChange constantSquaresSpec)

/-- ITS FALSE NEIGHBOUR: 'it returns false'. Refute it at one input. -/
def constantSquaresWrong : ChangeSpec := { name := "constantSquares", fn := fun _ => fun
  | [d] => { results := [.lit (.bool false)], args := [d] }
  | _ => none }
def ConstantSquaresWrongFalsely : Prop := constantSquaresRow.holds Tryz.pinned (OpenSpec.ofChange constantSquaresWrong)

/- THE SECOND FORM. 'bulk': how many values and letters a reading holds, each counted each time it is reached (what is shared counts as often as it is met; a slice's spare places count too). A statement '..UptoSaid' is the law's where the arguments, and the package variables that the reading takes, are together of bulk at most 1048576: NARROWER than '..Said'. Prove '..Said' where nothing that the law and all that it calls make is longer than what came in: it says more and counts as full. Else prove '..UptoSaid'. A law counts once. -/
mutual
def uptoBulk {H : Type} : DataW H → Nat
  | .lit (.string bytes) => bytes.length + 1
  | .lit _ => 1
  | .nil => 1
  | .ptr d => uptoBulk d + 1
  | .slice elems spare => uptoBulkAll elems + uptoBulkAll spare + 1
  | .agg parts => uptoBulkAll parts + 1
  | .iface _ d => uptoBulk d + 1
  | .map entries => uptoBulkEntries entries + 1
  | .held _ => 1
def uptoBulkAll {H : Type} : List (DataW H) → Nat
  | [] => 0
  | d :: r => uptoBulk d + uptoBulkAll r
def uptoBulkEntries {H : Type} : List (Lit × DataW H) → Nat
  | [] => 0
  | x :: r => uptoBulkEntry x + uptoBulkEntries r
def uptoBulkEntry {H : Type} : Lit × DataW H → Nat
  | (.string bytes, d) => bytes.length + uptoBulk d + 1
  | (_, d) => uptoBulk d + 1
 end
def uptoSmall : (H : Type) → List (DataW H) → Bool := fun _ ds => decide (uptoBulkAll ds ≤ 1048576)
def OpenSpec.upto (s : _root_.Go.ChangeSpec) : _root_.Go.OpenSpec := { _root_.Go.OpenSpec.ofChange s with cond := some uptoSmall }

/-- 'exactreallaw13.ConstantTight', WHERE WHAT IT READS IS OF BULK AT MOST 1048576: true; the input reads as it did. -/
def constantTightUptoRow : OpenClaim := { program := "ytfnklkdbieikeaagreatdoor", sum := "8bd7e8d7552cf3214b610e728c21097c7902e82f8f53c43cd0df11f2bfb65ff6", func := "exactreal/exactreallaw13.ConstantTight", spec := "constantTight", unfollowed := true, recurses := true, named := ["math/bits.overflowError", "math/bits.deBruijn32tab"], apart := false, laid := [("math/bits.deBruijn32tab", laid_math_bits_deBruijn32tab)], narrowed := true }
def ConstantTightUptoSaid : Prop := constantTightUptoRow.holds Tryz.pinned (OpenSpec.upto constantTightSpec)

/-- 'exactreallaw13.ConstantMeets', WHERE WHAT IT READS IS OF BULK AT MOST 1048576: true; the input reads as it did. -/
def constantMeetsUptoRow : OpenClaim := { program := "ytfnklkdbieikeaagreatdoor", sum := "8bd7e8d7552cf3214b610e728c21097c7902e82f8f53c43cd0df11f2bfb65ff6", func := "exactreal/exactreallaw13.ConstantMeets", spec := "constantMeets", unfollowed := true, recurses := true, named := ["math/bits.overflowError", "math/bits.deBruijn32tab"], apart := false, laid := [("math/bits.deBruijn32tab", laid_math_bits_deBruijn32tab)], narrowed := true }
def ConstantMeetsUptoSaid : Prop := constantMeetsUptoRow.holds Tryz.pinned (OpenSpec.upto constantMeetsSpec)

/-- 'exactreallaw13.ConstantRange', WHERE WHAT IT READS IS OF BULK AT MOST 1048576: true; the input reads as it did. -/
def constantRangeUptoRow : OpenClaim := { program := "ytfnklkdbieikeaagreatdoor", sum := "8bd7e8d7552cf3214b610e728c21097c7902e82f8f53c43cd0df11f2bfb65ff6", func := "exactreal/exactreallaw13.ConstantRange", spec := "constantRange", unfollowed := true, recurses := true, named := ["math/bits.overflowError", "math/bits.deBruijn32tab"], apart := false, laid := [("math/bits.deBruijn32tab", laid_math_bits_deBruijn32tab)], narrowed := true }
def ConstantRangeUptoSaid : Prop := constantRangeUptoRow.holds Tryz.pinned (OpenSpec.upto constantRangeSpec)

/-- 'exactreallaw13.ConstantTightness', WHERE WHAT IT READS IS OF BULK AT MOST 1048576: true; the input reads as it did. -/
def constantTightnessUptoRow : OpenClaim := { program := "ytfnklkdbieikeaagreatdoor", sum := "8bd7e8d7552cf3214b610e728c21097c7902e82f8f53c43cd0df11f2bfb65ff6", func := "exactreal/exactreallaw13.ConstantTightness", spec := "constantTightness", unfollowed := true, recurses := true, named := ["math/bits.overflowError", "math/bits.deBruijn32tab"], apart := false, laid := [("math/bits.deBruijn32tab", laid_math_bits_deBruijn32tab)], narrowed := true }
def ConstantTightnessUptoSaid : Prop := constantTightnessUptoRow.holds Tryz.pinned (OpenSpec.upto constantTightnessSpec)

/-- 'exactreallaw13.ConstantSquares', WHERE WHAT IT READS IS OF BULK AT MOST 1048576: true; the input reads as it did. -/
def constantSquaresUptoRow : OpenClaim := { program := "ytfnklkdbieikeaagreatdoor", sum := "8bd7e8d7552cf3214b610e728c21097c7902e82f8f53c43cd0df11f2bfb65ff6", func := "exactreal/exactreallaw13.ConstantSquares", spec := "constantSquares", unfollowed := true, recurses := true, named := ["math/bits.overflowError", "math/bits.deBruijn32tab"], apart := false, laid := [("math/bits.deBruijn32tab", laid_math_bits_deBruijn32tab)], narrowed := true }
def ConstantSquaresUptoSaid : Prop := constantSquaresUptoRow.holds Tryz.pinned (OpenSpec.upto constantSquaresSpec)

end Rows
end Go.Proofs.YtfnklkdbieikeaaGreatDoor
