/-
  NARROWER THAN 'FOR EVERY INPUT', by the rows' own cells (each row's printed sentence says how): LogarithmClose: laid · LogarithmFar: laid · LogarithmEnds: laid · LogarithmInverts: laid · LogarithmSums: laid · LogarithmSplits: laid.
  DERIVED. THE GIVEN ROWS OF THIS SEAT. 6 by the template 'for every input the law returns true; each argument reads behind the call as it read before'; 0 by the template 'total and deterministic' (their statements: YtmlddkiccjpoeaaGreatDoorTotals.lean).
  GIVEN WITH THE SEED: the statements are not yours to turn. If you find one false, say at which input.
  Laid BY PROGRAM, IN A SANDBOX (cutbox-rows.mjs): the forced cells as the released guide's own fill.sh prints them over the translation 838b8ffaac4faa4f… (all of the seat's roots in one cut). By AI agents, Wed Nov 11 2026. No macro, syntax, notation, axiom, sorry.
-/
import Derived.Test.YtmlddkiccjpoeaaGreatDoorChecked
import GoSem.Claim
import GoSem.ClaimJoined
import GoSem.ClaimMapViews
import Derived.JoinedTies
import Derived.KernelRfl
namespace Go.Proofs.YtmlddkiccjpoeaaGreatDoor
/- THE CELL 'sum', in the pinned program and in every row, IS THE sha256 OF THE DUMP (.gsa) THAT YtmlddkiccjpoeaaGreatDoorProg.lean LOADS. Nothing in Lean hashes anything: it is a label: what it is worth is what the hold of that sum in a sandbox is worth. -/
noncomputable def Tryz.pinned : Pinned := { name := "ytmlddkiccjpoeaagreatdoor", sum := "838b8ffaac4faa4fb2f4608a517f2753ae82d6427a9af484275ad426d1237559", checked := Tryz.checked }
namespace Rows
def none {H : Type} : Left H := { results := [], args := [] }

/- WHAT THE LISTED PACKAGE-LEVEL VARIABLES READ AS WHEN THE CALL BEGINS. Each datum BY PROGRAM (the guide's laid-datum.mjs) off the statement by which the dump's own 'gosem.cut.vars' lays the variable. In a bare row this is a premise. The card (YtmlddkiccjpoeaaGreatDoorCards.lean) ties it to the program's text. -/
def laid_math_bits_deBruijn32tab {H : Type} : DataW H := .agg [.lit (.int .u8 0), .lit (.int .u8 1), .lit (.int .u8 28), .lit (.int .u8 2), .lit (.int .u8 29), .lit (.int .u8 14), .lit (.int .u8 24), .lit (.int .u8 3), .lit (.int .u8 30), .lit (.int .u8 22), .lit (.int .u8 20), .lit (.int .u8 15), .lit (.int .u8 25), .lit (.int .u8 17), .lit (.int .u8 4), .lit (.int .u8 8), .lit (.int .u8 31), .lit (.int .u8 27), .lit (.int .u8 13), .lit (.int .u8 23), .lit (.int .u8 21), .lit (.int .u8 19), .lit (.int .u8 16), .lit (.int .u8 7), .lit (.int .u8 26), .lit (.int .u8 12), .lit (.int .u8 18), .lit (.int .u8 6), .lit (.int .u8 11), .lit (.int .u8 5), .lit (.int .u8 10), .lit (.int .u8 9)]

/-- 'exactreallaw15.LogarithmClose': WHATEVER THE INPUT: true; the input reads as it did. -/
def logarithmCloseSpec : ChangeSpec := { name := "logarithmClose", fn := fun _ => fun
  | [d1, d2, d3] => { results := [.lit (.bool true)], args := [d1, d2, d3] }
  | _ => none }
def logarithmCloseRow : OpenClaim := { program := "ytmlddkiccjpoeaagreatdoor", sum := "838b8ffaac4faa4fb2f4608a517f2753ae82d6427a9af484275ad426d1237559", func := "exactreal/exactreallaw15.LogarithmClose", spec := "logarithmClose", unfollowed := true, recurses := true, named := ["math/bits.overflowError", "math/bits.deBruijn32tab"], apart := false, laid := [("math/bits.deBruijn32tab", laid_math_bits_deBruijn32tab)] }
def LogarithmCloseSaid : Prop := logarithmCloseRow.holds Tryz.pinned (OpenSpec.ofChange logarithmCloseSpec)

/-- ITS FALSE NEIGHBOUR: 'it returns false'. Refute it at one input. -/
def logarithmCloseWrong : ChangeSpec := { name := "logarithmClose", fn := fun _ => fun
  | [d1, d2, d3] => { results := [.lit (.bool false)], args := [d1, d2, d3] }
  | _ => none }
def LogarithmCloseWrongFalsely : Prop := logarithmCloseRow.holds Tryz.pinned (OpenSpec.ofChange logarithmCloseWrong)

/-- 'exactreallaw15.LogarithmFar': WHATEVER THE INPUT: true; the input reads as it did. -/
def logarithmFarSpec : ChangeSpec := { name := "logarithmFar", fn := fun _ => fun
  | [d1, d2, d3] => { results := [.lit (.bool true)], args := [d1, d2, d3] }
  | _ => none }
def logarithmFarRow : OpenClaim := { program := "ytmlddkiccjpoeaagreatdoor", sum := "838b8ffaac4faa4fb2f4608a517f2753ae82d6427a9af484275ad426d1237559", func := "exactreal/exactreallaw15.LogarithmFar", spec := "logarithmFar", unfollowed := true, recurses := true, named := ["math/bits.overflowError", "math/bits.deBruijn32tab"], apart := false, laid := [("math/bits.deBruijn32tab", laid_math_bits_deBruijn32tab)] }
def LogarithmFarSaid : Prop := logarithmFarRow.holds Tryz.pinned (OpenSpec.ofChange logarithmFarSpec)

/-- ITS FALSE NEIGHBOUR: 'it returns false'. Refute it at one input. -/
def logarithmFarWrong : ChangeSpec := { name := "logarithmFar", fn := fun _ => fun
  | [d1, d2, d3] => { results := [.lit (.bool false)], args := [d1, d2, d3] }
  | _ => none }
def LogarithmFarWrongFalsely : Prop := logarithmFarRow.holds Tryz.pinned (OpenSpec.ofChange logarithmFarWrong)

/-- 'exactreallaw15.LogarithmEnds': WHATEVER THE INPUT: true; the input reads as it did. -/
def logarithmEndsSpec : ChangeSpec := { name := "logarithmEnds", fn := fun _ => fun
  | [d1, d2] => { results := [.lit (.bool true)], args := [d1, d2] }
  | _ => none }
def logarithmEndsRow : OpenClaim := { program := "ytmlddkiccjpoeaagreatdoor", sum := "838b8ffaac4faa4fb2f4608a517f2753ae82d6427a9af484275ad426d1237559", func := "exactreal/exactreallaw15.LogarithmEnds", spec := "logarithmEnds", unfollowed := true, recurses := true, named := ["math/bits.overflowError", "math/bits.deBruijn32tab"], apart := false, laid := [("math/bits.deBruijn32tab", laid_math_bits_deBruijn32tab)] }
def LogarithmEndsSaid : Prop := logarithmEndsRow.holds Tryz.pinned (OpenSpec.ofChange logarithmEndsSpec)

/-- ITS FALSE NEIGHBOUR: 'it returns false'. Refute it at one input. -/
def logarithmEndsWrong : ChangeSpec := { name := "logarithmEnds", fn := fun _ => fun
  | [d1, d2] => { results := [.lit (.bool false)], args := [d1, d2] }
  | _ => none }
def LogarithmEndsWrongFalsely : Prop := logarithmEndsRow.holds Tryz.pinned (OpenSpec.ofChange logarithmEndsWrong)

/-- 'exactreallaw15.LogarithmInverts': WHATEVER THE INPUT: true; the input reads as it did. -/
def logarithmInvertsSpec : ChangeSpec := { name := "logarithmInverts", fn := fun _ => fun
  | [d1, d2] => { results := [.lit (.bool true)], args := [d1, d2] }
  | _ => none }
def logarithmInvertsRow : OpenClaim := { program := "ytmlddkiccjpoeaagreatdoor", sum := "838b8ffaac4faa4fb2f4608a517f2753ae82d6427a9af484275ad426d1237559", func := "exactreal/exactreallaw15.LogarithmInverts", spec := "logarithmInverts", unfollowed := true, recurses := true, named := ["math/bits.overflowError", "math/bits.deBruijn32tab"], apart := false, laid := [("math/bits.deBruijn32tab", laid_math_bits_deBruijn32tab)] }
def LogarithmInvertsSaid : Prop := logarithmInvertsRow.holds Tryz.pinned (OpenSpec.ofChange logarithmInvertsSpec)

/-- ITS FALSE NEIGHBOUR: 'it returns false'. Refute it at one input. -/
def logarithmInvertsWrong : ChangeSpec := { name := "logarithmInverts", fn := fun _ => fun
  | [d1, d2] => { results := [.lit (.bool false)], args := [d1, d2] }
  | _ => none }
def LogarithmInvertsWrongFalsely : Prop := logarithmInvertsRow.holds Tryz.pinned (OpenSpec.ofChange logarithmInvertsWrong)

/-- 'exactreallaw15.LogarithmSums': WHATEVER THE INPUT: true; the input reads as it did. -/
def logarithmSumsSpec : ChangeSpec := { name := "logarithmSums", fn := fun _ => fun
  | [d1, d2, d3] => { results := [.lit (.bool true)], args := [d1, d2, d3] }
  | _ => none }
def logarithmSumsRow : OpenClaim := { program := "ytmlddkiccjpoeaagreatdoor", sum := "838b8ffaac4faa4fb2f4608a517f2753ae82d6427a9af484275ad426d1237559", func := "exactreal/exactreallaw15.LogarithmSums", spec := "logarithmSums", unfollowed := true, recurses := true, named := ["math/bits.overflowError", "math/bits.deBruijn32tab"], apart := false, laid := [("math/bits.deBruijn32tab", laid_math_bits_deBruijn32tab)] }
def LogarithmSumsSaid : Prop := logarithmSumsRow.holds Tryz.pinned (OpenSpec.ofChange logarithmSumsSpec)

/-- ITS FALSE NEIGHBOUR: 'it returns false'. Refute it at one input. -/
def logarithmSumsWrong : ChangeSpec := { name := "logarithmSums", fn := fun _ => fun
  | [d1, d2, d3] => { results := [.lit (.bool false)], args := [d1, d2, d3] }
  | _ => none }
def LogarithmSumsWrongFalsely : Prop := logarithmSumsRow.holds Tryz.pinned (OpenSpec.ofChange logarithmSumsWrong)

/-- 'exactreallaw15.LogarithmSplits': WHATEVER THE INPUT: true; the input reads as it did. -/
def logarithmSplitsSpec : ChangeSpec := { name := "logarithmSplits", fn := fun _ => fun
  | [d] => { results := [.lit (.bool true)], args := [d] }
  | _ => none }
def logarithmSplitsRow : OpenClaim := { program := "ytmlddkiccjpoeaagreatdoor", sum := "838b8ffaac4faa4fb2f4608a517f2753ae82d6427a9af484275ad426d1237559", func := "exactreal/exactreallaw15.LogarithmSplits", spec := "logarithmSplits", unfollowed := true, recurses := true, named := ["math/bits.overflowError", "math/bits.deBruijn32tab"], apart := false, laid := [("math/bits.deBruijn32tab", laid_math_bits_deBruijn32tab)] }
def LogarithmSplitsSaid : Prop := logarithmSplitsRow.holds Tryz.pinned (OpenSpec.ofChange logarithmSplitsSpec)

/-- ITS FALSE NEIGHBOUR: 'it returns false'. Refute it at one input. -/
def logarithmSplitsWrong : ChangeSpec := { name := "logarithmSplits", fn := fun _ => fun
  | [d] => { results := [.lit (.bool false)], args := [d] }
  | _ => none }
def LogarithmSplitsWrongFalsely : Prop := logarithmSplitsRow.holds Tryz.pinned (OpenSpec.ofChange logarithmSplitsWrong)

/- THE SECOND FORM. 'bulk': how many values and letters a reading holds, each counted each time it is reached (what is shared counts as often as it is met; a slice's spare places count too). A statement '..UptoSaid' is the law's where the arguments, and the package variables that the reading takes, are together of bulk at most 1048576: NARROWER than '..Said'. Prove '..Said' where nothing that the law and all that it calls make is longer than what came in: it says more and counts as full. Else prove '..UptoSaid'. A law counts once. -/
mutual
def uptoBulk {H : Type} : DataW H → Nat
  | .lit (.string bytes) => bytes.length + 1
  | .lit _ => 1
  | .nil => 1
  | .ptr d => uptoBulk d + 1
  | .slice elems spare => uptoBulkAll elems + uptoBulkAll spare + 1
  | .agg parts => uptoBulkAll parts + 1
  | .iface _ d => uptoBulk d + 1
  | .map entries => uptoBulkEntries entries + 1
  | .held _ => 1
def uptoBulkAll {H : Type} : List (DataW H) → Nat
  | [] => 0
  | d :: r => uptoBulk d + uptoBulkAll r
def uptoBulkEntries {H : Type} : List (Lit × DataW H) → Nat
  | [] => 0
  | x :: r => uptoBulkEntry x + uptoBulkEntries r
def uptoBulkEntry {H : Type} : Lit × DataW H → Nat
  | (.string bytes, d) => bytes.length + uptoBulk d + 1
  | (_, d) => uptoBulk d + 1
 end
def uptoSmall : (H : Type) → List (DataW H) → Bool := fun _ ds => decide (uptoBulkAll ds ≤ 1048576)
def OpenSpec.upto (s : _root_.Go.ChangeSpec) : _root_.Go.OpenSpec := { _root_.Go.OpenSpec.ofChange s with cond := some uptoSmall }

/-- 'exactreallaw15.LogarithmClose', WHERE WHAT IT READS IS OF BULK AT MOST 1048576: true; the input reads as it did. -/
def logarithmCloseUptoRow : OpenClaim := { program := "ytmlddkiccjpoeaagreatdoor", sum := "838b8ffaac4faa4fb2f4608a517f2753ae82d6427a9af484275ad426d1237559", func := "exactreal/exactreallaw15.LogarithmClose", spec := "logarithmClose", unfollowed := true, recurses := true, named := ["math/bits.overflowError", "math/bits.deBruijn32tab"], apart := false, laid := [("math/bits.deBruijn32tab", laid_math_bits_deBruijn32tab)], narrowed := true }
def LogarithmCloseUptoSaid : Prop := logarithmCloseUptoRow.holds Tryz.pinned (OpenSpec.upto logarithmCloseSpec)

/-- 'exactreallaw15.LogarithmFar', WHERE WHAT IT READS IS OF BULK AT MOST 1048576: true; the input reads as it did. -/
def logarithmFarUptoRow : OpenClaim := { program := "ytmlddkiccjpoeaagreatdoor", sum := "838b8ffaac4faa4fb2f4608a517f2753ae82d6427a9af484275ad426d1237559", func := "exactreal/exactreallaw15.LogarithmFar", spec := "logarithmFar", unfollowed := true, recurses := true, named := ["math/bits.overflowError", "math/bits.deBruijn32tab"], apart := false, laid := [("math/bits.deBruijn32tab", laid_math_bits_deBruijn32tab)], narrowed := true }
def LogarithmFarUptoSaid : Prop := logarithmFarUptoRow.holds Tryz.pinned (OpenSpec.upto logarithmFarSpec)

/-- 'exactreallaw15.LogarithmEnds', WHERE WHAT IT READS IS OF BULK AT MOST 1048576: true; the input reads as it did. -/
def logarithmEndsUptoRow : OpenClaim := { program := "ytmlddkiccjpoeaagreatdoor", sum := "838b8ffaac4faa4fb2f4608a517f2753ae82d6427a9af484275ad426d1237559", func := "exactreal/exactreallaw15.LogarithmEnds", spec := "logarithmEnds", unfollowed := true, recurses := true, named := ["math/bits.overflowError", "math/bits.deBruijn32tab"], apart := false, laid := [("math/bits.deBruijn32tab", laid_math_bits_deBruijn32tab)], narrowed := true }
def LogarithmEndsUptoSaid : Prop := logarithmEndsUptoRow.holds Tryz.pinned (OpenSpec.upto logarithmEndsSpec)

/-- 'exactreallaw15.LogarithmInverts', WHERE WHAT IT READS IS OF BULK AT MOST 1048576: true; the input reads as it did. -/
def logarithmInvertsUptoRow : OpenClaim := { program := "ytmlddkiccjpoeaagreatdoor", sum := "838b8ffaac4faa4fb2f4608a517f2753ae82d6427a9af484275ad426d1237559", func := "exactreal/exactreallaw15.LogarithmInverts", spec := "logarithmInverts", unfollowed := true, recurses := true, named := ["math/bits.overflowError", "math/bits.deBruijn32tab"], apart := false, laid := [("math/bits.deBruijn32tab", laid_math_bits_deBruijn32tab)], narrowed := true }
def LogarithmInvertsUptoSaid : Prop := logarithmInvertsUptoRow.holds Tryz.pinned (OpenSpec.upto logarithmInvertsSpec)

/-- 'exactreallaw15.LogarithmSums', WHERE WHAT IT READS IS OF BULK AT MOST 1048576: true; the input reads as it did. -/
def logarithmSumsUptoRow : OpenClaim := { program := "ytmlddkiccjpoeaagreatdoor", sum := "838b8ffaac4faa4fb2f4608a517f2753ae82d6427a9af484275ad426d1237559", func := "exactreal/exactreallaw15.LogarithmSums", spec := "logarithmSums", unfollowed := true, recurses := true, named := ["math/bits.overflowError", "math/bits.deBruijn32tab"], apart := false, laid := [("math/bits.deBruijn32tab", laid_math_bits_deBruijn32tab)], narrowed := true }
def LogarithmSumsUptoSaid : Prop := logarithmSumsUptoRow.holds Tryz.pinned (OpenSpec.upto logarithmSumsSpec)

/-- 'exactreallaw15.LogarithmSplits', WHERE WHAT IT READS IS OF BULK AT MOST 1048576: true; the input reads as it did. -/
def logarithmSplitsUptoRow : OpenClaim := { program := "ytmlddkiccjpoeaagreatdoor", sum := "838b8ffaac4faa4fb2f4608a517f2753ae82d6427a9af484275ad426d1237559", func := "exactreal/exactreallaw15.LogarithmSplits", spec := "logarithmSplits", unfollowed := true, recurses := true, named := ["math/bits.overflowError", "math/bits.deBruijn32tab"], apart := false, laid := [("math/bits.deBruijn32tab", laid_math_bits_deBruijn32tab)], narrowed := true }
def LogarithmSplitsUptoSaid : Prop := logarithmSplitsUptoRow.holds Tryz.pinned (OpenSpec.upto logarithmSplitsSpec)

end Rows
end Go.Proofs.YtmlddkiccjpoeaaGreatDoor
