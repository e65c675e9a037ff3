/-
  NARROWER THAN 'FOR EVERY INPUT', by the rows' own cells (each row's printed sentence says how): ExponentialClose: laid · ExponentialFar: laid · ExponentialEnds: laid · ExponentialProducts: laid · ExponentialRises: laid · ExponentialReduces: laid · ExponentialPoints: laid.
  DERIVED. THE GIVEN ROWS OF THIS SEAT. 7 by the template 'for every input the law returns true; each argument reads behind the call as it read before'; 0 by the template 'total and deterministic' (their statements: YtnnfldkllhdhjaaGreatDoorTotals.lean).
  GIVEN WITH THE SEED: the statements are not yours to turn. If you find one false, say at which input.
  Laid BY PROGRAM, IN A SANDBOX (cutbox-rows.mjs): the forced cells as the released guide's own fill.sh prints them over the translation 7ff940ff0488d540… (all of the seat's roots in one cut). By AI agents, Wed Nov 11 2026. No macro, syntax, notation, axiom, sorry.
-/
import Derived.Test.YtnnfldkllhdhjaaGreatDoorChecked
import GoSem.Claim
import GoSem.ClaimJoined
import GoSem.ClaimMapViews
import Derived.JoinedTies
import Derived.KernelRfl
namespace Go.Proofs.YtnnfldkllhdhjaaGreatDoor
/- THE CELL 'sum', in the pinned program and in every row, IS THE sha256 OF THE DUMP (.gsa) THAT YtnnfldkllhdhjaaGreatDoorProg.lean LOADS. Nothing in Lean hashes anything: it is a label: what it is worth is what the hold of that sum in a sandbox is worth. -/
noncomputable def Tryz.pinned : Pinned := { name := "ytnnfldkllhdhjaagreatdoor", sum := "7ff940ff0488d5406032f8e812c200210e36d5a07dabc88889c10d9a3e901206", checked := Tryz.checked }
namespace Rows
def none {H : Type} : Left H := { results := [], args := [] }

/- WHAT THE LISTED PACKAGE-LEVEL VARIABLES READ AS WHEN THE CALL BEGINS. Each datum BY PROGRAM (the guide's laid-datum.mjs) off the statement by which the dump's own 'gosem.cut.vars' lays the variable. In a bare row this is a premise. The card (YtnnfldkllhdhjaaGreatDoorCards.lean) ties it to the program's text. -/
def laid_math_bits_deBruijn32tab {H : Type} : DataW H := .agg [.lit (.int .u8 0), .lit (.int .u8 1), .lit (.int .u8 28), .lit (.int .u8 2), .lit (.int .u8 29), .lit (.int .u8 14), .lit (.int .u8 24), .lit (.int .u8 3), .lit (.int .u8 30), .lit (.int .u8 22), .lit (.int .u8 20), .lit (.int .u8 15), .lit (.int .u8 25), .lit (.int .u8 17), .lit (.int .u8 4), .lit (.int .u8 8), .lit (.int .u8 31), .lit (.int .u8 27), .lit (.int .u8 13), .lit (.int .u8 23), .lit (.int .u8 21), .lit (.int .u8 19), .lit (.int .u8 16), .lit (.int .u8 7), .lit (.int .u8 26), .lit (.int .u8 12), .lit (.int .u8 18), .lit (.int .u8 6), .lit (.int .u8 11), .lit (.int .u8 5), .lit (.int .u8 10), .lit (.int .u8 9)]

/-- 'exactreallaw14.ExponentialClose': WHATEVER THE INPUT: true; the input reads as it did. -/
def exponentialCloseSpec : ChangeSpec := { name := "exponentialClose", fn := fun _ => fun
  | [d1, d2, d3] => { results := [.lit (.bool true)], args := [d1, d2, d3] }
  | _ => none }
def exponentialCloseRow : OpenClaim := { program := "ytnnfldkllhdhjaagreatdoor", sum := "7ff940ff0488d5406032f8e812c200210e36d5a07dabc88889c10d9a3e901206", func := "exactreal/exactreallaw14.ExponentialClose", spec := "exponentialClose", unfollowed := true, recurses := true, named := ["math/bits.deBruijn32tab", "math/bits.overflowError"], apart := false, laid := [("math/bits.deBruijn32tab", laid_math_bits_deBruijn32tab)] }
def ExponentialCloseSaid : Prop := exponentialCloseRow.holds Tryz.pinned (OpenSpec.ofChange exponentialCloseSpec)

/-- ITS FALSE NEIGHBOUR: 'it returns false'. Refute it at one input. -/
def exponentialCloseWrong : ChangeSpec := { name := "exponentialClose", fn := fun _ => fun
  | [d1, d2, d3] => { results := [.lit (.bool false)], args := [d1, d2, d3] }
  | _ => none }
def ExponentialCloseWrongFalsely : Prop := exponentialCloseRow.holds Tryz.pinned (OpenSpec.ofChange exponentialCloseWrong)

/-- 'exactreallaw14.ExponentialFar': WHATEVER THE INPUT: true; the input reads as it did. -/
def exponentialFarSpec : ChangeSpec := { name := "exponentialFar", fn := fun _ => fun
  | [d1, d2, d3] => { results := [.lit (.bool true)], args := [d1, d2, d3] }
  | _ => none }
def exponentialFarRow : OpenClaim := { program := "ytnnfldkllhdhjaagreatdoor", sum := "7ff940ff0488d5406032f8e812c200210e36d5a07dabc88889c10d9a3e901206", func := "exactreal/exactreallaw14.ExponentialFar", spec := "exponentialFar", unfollowed := true, recurses := true, named := ["math/bits.deBruijn32tab", "math/bits.overflowError"], apart := false, laid := [("math/bits.deBruijn32tab", laid_math_bits_deBruijn32tab)] }
def ExponentialFarSaid : Prop := exponentialFarRow.holds Tryz.pinned (OpenSpec.ofChange exponentialFarSpec)

/-- ITS FALSE NEIGHBOUR: 'it returns false'. Refute it at one input. -/
def exponentialFarWrong : ChangeSpec := { name := "exponentialFar", fn := fun _ => fun
  | [d1, d2, d3] => { results := [.lit (.bool false)], args := [d1, d2, d3] }
  | _ => none }
def ExponentialFarWrongFalsely : Prop := exponentialFarRow.holds Tryz.pinned (OpenSpec.ofChange exponentialFarWrong)

/-- 'exactreallaw14.ExponentialEnds': WHATEVER THE INPUT: true; the input reads as it did. -/
def exponentialEndsSpec : ChangeSpec := { name := "exponentialEnds", fn := fun _ => fun
  | [d1, d2, d3] => { results := [.lit (.bool true)], args := [d1, d2, d3] }
  | _ => none }
def exponentialEndsRow : OpenClaim := { program := "ytnnfldkllhdhjaagreatdoor", sum := "7ff940ff0488d5406032f8e812c200210e36d5a07dabc88889c10d9a3e901206", func := "exactreal/exactreallaw14.ExponentialEnds", spec := "exponentialEnds", unfollowed := true, recurses := true, named := ["math/bits.deBruijn32tab", "math/bits.overflowError"], apart := false, laid := [("math/bits.deBruijn32tab", laid_math_bits_deBruijn32tab)] }
def ExponentialEndsSaid : Prop := exponentialEndsRow.holds Tryz.pinned (OpenSpec.ofChange exponentialEndsSpec)

/-- ITS FALSE NEIGHBOUR: 'it returns false'. Refute it at one input. -/
def exponentialEndsWrong : ChangeSpec := { name := "exponentialEnds", fn := fun _ => fun
  | [d1, d2, d3] => { results := [.lit (.bool false)], args := [d1, d2, d3] }
  | _ => none }
def ExponentialEndsWrongFalsely : Prop := exponentialEndsRow.holds Tryz.pinned (OpenSpec.ofChange exponentialEndsWrong)

/-- 'exactreallaw14.ExponentialProducts': WHATEVER THE INPUT: true; the input reads as it did. -/
def exponentialProductsSpec : ChangeSpec := { name := "exponentialProducts", fn := fun _ => fun
  | [d1, d2, d3] => { results := [.lit (.bool true)], args := [d1, d2, d3] }
  | _ => none }
def exponentialProductsRow : OpenClaim := { program := "ytnnfldkllhdhjaagreatdoor", sum := "7ff940ff0488d5406032f8e812c200210e36d5a07dabc88889c10d9a3e901206", func := "exactreal/exactreallaw14.ExponentialProducts", spec := "exponentialProducts", unfollowed := true, recurses := true, named := ["math/bits.deBruijn32tab", "math/bits.overflowError"], apart := false, laid := [("math/bits.deBruijn32tab", laid_math_bits_deBruijn32tab)] }
def ExponentialProductsSaid : Prop := exponentialProductsRow.holds Tryz.pinned (OpenSpec.ofChange exponentialProductsSpec)

/-- ITS FALSE NEIGHBOUR: 'it returns false'. Refute it at one input. -/
def exponentialProductsWrong : ChangeSpec := { name := "exponentialProducts", fn := fun _ => fun
  | [d1, d2, d3] => { results := [.lit (.bool false)], args := [d1, d2, d3] }
  | _ => none }
def ExponentialProductsWrongFalsely : Prop := exponentialProductsRow.holds Tryz.pinned (OpenSpec.ofChange exponentialProductsWrong)

/-- 'exactreallaw14.ExponentialRises': WHATEVER THE INPUT: true; the input reads as it did. -/
def exponentialRisesSpec : ChangeSpec := { name := "exponentialRises", fn := fun _ => fun
  | [d1, d2, d3] => { results := [.lit (.bool true)], args := [d1, d2, d3] }
  | _ => none }
def exponentialRisesRow : OpenClaim := { program := "ytnnfldkllhdhjaagreatdoor", sum := "7ff940ff0488d5406032f8e812c200210e36d5a07dabc88889c10d9a3e901206", func := "exactreal/exactreallaw14.ExponentialRises", spec := "exponentialRises", unfollowed := true, recurses := true, named := ["math/bits.deBruijn32tab", "math/bits.overflowError"], apart := false, laid := [("math/bits.deBruijn32tab", laid_math_bits_deBruijn32tab)] }
def ExponentialRisesSaid : Prop := exponentialRisesRow.holds Tryz.pinned (OpenSpec.ofChange exponentialRisesSpec)

/-- ITS FALSE NEIGHBOUR: 'it returns false'. Refute it at one input. -/
def exponentialRisesWrong : ChangeSpec := { name := "exponentialRises", fn := fun _ => fun
  | [d1, d2, d3] => { results := [.lit (.bool false)], args := [d1, d2, d3] }
  | _ => none }
def ExponentialRisesWrongFalsely : Prop := exponentialRisesRow.holds Tryz.pinned (OpenSpec.ofChange exponentialRisesWrong)

/-- 'exactreallaw14.ExponentialReduces': WHATEVER THE INPUT: true; the input reads as it did. -/
def exponentialReducesSpec : ChangeSpec := { name := "exponentialReduces", fn := fun _ => fun
  | [d1, d2] => { results := [.lit (.bool true)], args := [d1, d2] }
  | _ => none }
def exponentialReducesRow : OpenClaim := { program := "ytnnfldkllhdhjaagreatdoor", sum := "7ff940ff0488d5406032f8e812c200210e36d5a07dabc88889c10d9a3e901206", func := "exactreal/exactreallaw14.ExponentialReduces", spec := "exponentialReduces", unfollowed := true, recurses := true, named := ["math/bits.deBruijn32tab", "math/bits.overflowError"], apart := false, laid := [("math/bits.deBruijn32tab", laid_math_bits_deBruijn32tab)] }
def ExponentialReducesSaid : Prop := exponentialReducesRow.holds Tryz.pinned (OpenSpec.ofChange exponentialReducesSpec)

/-- ITS FALSE NEIGHBOUR: 'it returns false'. Refute it at one input. -/
def exponentialReducesWrong : ChangeSpec := { name := "exponentialReduces", fn := fun _ => fun
  | [d1, d2] => { results := [.lit (.bool false)], args := [d1, d2] }
  | _ => none }
def ExponentialReducesWrongFalsely : Prop := exponentialReducesRow.holds Tryz.pinned (OpenSpec.ofChange exponentialReducesWrong)

/-- 'exactreallaw14.ExponentialPoints': WHATEVER THE INPUT: true; the input reads as it did. -/
def exponentialPointsSpec : ChangeSpec := { name := "exponentialPoints", fn := fun _ => fun
  | [d] => { results := [.lit (.bool true)], args := [d] }
  | _ => none }
def exponentialPointsRow : OpenClaim := { program := "ytnnfldkllhdhjaagreatdoor", sum := "7ff940ff0488d5406032f8e812c200210e36d5a07dabc88889c10d9a3e901206", func := "exactreal/exactreallaw14.ExponentialPoints", spec := "exponentialPoints", unfollowed := true, recurses := true, named := ["math/bits.deBruijn32tab", "math/bits.overflowError"], apart := false, laid := [("math/bits.deBruijn32tab", laid_math_bits_deBruijn32tab)] }
def ExponentialPointsSaid : Prop := exponentialPointsRow.holds Tryz.pinned (OpenSpec.ofChange exponentialPointsSpec)

/-- ITS FALSE NEIGHBOUR: 'it returns false'. Refute it at one input. -/
def exponentialPointsWrong : ChangeSpec := { name := "exponentialPoints", fn := fun _ => fun
  | [d] => { results := [.lit (.bool false)], args := [d] }
  | _ => none }
def ExponentialPointsWrongFalsely : Prop := exponentialPointsRow.holds Tryz.pinned (OpenSpec.ofChange exponentialPointsWrong)

/- THE SECOND FORM. 'bulk': how many values and letters a reading holds, each counted each time it is reached (what is shared counts as often as it is met; a slice's spare places count too). A statement '..UptoSaid' is the law's where the arguments, and the package variables that the reading takes, are together of bulk at most 1048576: NARROWER than '..Said'. Prove '..Said' where nothing that the law and all that it calls make is longer than what came in: it says more and counts as full. Else prove '..UptoSaid'. A law counts once. -/
mutual
def uptoBulk {H : Type} : DataW H → Nat
  | .lit (.string bytes) => bytes.length + 1
  | .lit _ => 1
  | .nil => 1
  | .ptr d => uptoBulk d + 1
  | .slice elems spare => uptoBulkAll elems + uptoBulkAll spare + 1
  | .agg parts => uptoBulkAll parts + 1
  | .iface _ d => uptoBulk d + 1
  | .map entries => uptoBulkEntries entries + 1
  | .held _ => 1
def uptoBulkAll {H : Type} : List (DataW H) → Nat
  | [] => 0
  | d :: r => uptoBulk d + uptoBulkAll r
def uptoBulkEntries {H : Type} : List (Lit × DataW H) → Nat
  | [] => 0
  | x :: r => uptoBulkEntry x + uptoBulkEntries r
def uptoBulkEntry {H : Type} : Lit × DataW H → Nat
  | (.string bytes, d) => bytes.length + uptoBulk d + 1
  | (_, d) => uptoBulk d + 1
 end
def uptoSmall : (H : Type) → List (DataW H) → Bool := fun _ ds => decide (uptoBulkAll ds ≤ 1048576)
def OpenSpec.upto (s : _root_.Go.ChangeSpec) : _root_.Go.OpenSpec := { _root_.Go.OpenSpec.ofChange s with cond := some uptoSmall }

/-- 'exactreallaw14.ExponentialClose', WHERE WHAT IT READS IS OF BULK AT MOST 1048576: true; the input reads as it did. -/
def exponentialCloseUptoRow : OpenClaim := { program := "ytnnfldkllhdhjaagreatdoor", sum := "7ff940ff0488d5406032f8e812c200210e36d5a07dabc88889c10d9a3e901206", func := "exactreal/exactreallaw14.ExponentialClose", spec := "exponentialClose", unfollowed := true, recurses := true, named := ["math/bits.deBruijn32tab", "math/bits.overflowError"], apart := false, laid := [("math/bits.deBruijn32tab", laid_math_bits_deBruijn32tab)], narrowed := true }
def ExponentialCloseUptoSaid : Prop := exponentialCloseUptoRow.holds Tryz.pinned (OpenSpec.upto exponentialCloseSpec)

/-- 'exactreallaw14.ExponentialFar', WHERE WHAT IT READS IS OF BULK AT MOST 1048576: true; the input reads as it did. -/
def exponentialFarUptoRow : OpenClaim := { program := "ytnnfldkllhdhjaagreatdoor", sum := "7ff940ff0488d5406032f8e812c200210e36d5a07dabc88889c10d9a3e901206", func := "exactreal/exactreallaw14.ExponentialFar", spec := "exponentialFar", unfollowed := true, recurses := true, named := ["math/bits.deBruijn32tab", "math/bits.overflowError"], apart := false, laid := [("math/bits.deBruijn32tab", laid_math_bits_deBruijn32tab)], narrowed := true }
def ExponentialFarUptoSaid : Prop := exponentialFarUptoRow.holds Tryz.pinned (OpenSpec.upto exponentialFarSpec)

/-- 'exactreallaw14.ExponentialEnds', WHERE WHAT IT READS IS OF BULK AT MOST 1048576: true; the input reads as it did. -/
def exponentialEndsUptoRow : OpenClaim := { program := "ytnnfldkllhdhjaagreatdoor", sum := "7ff940ff0488d5406032f8e812c200210e36d5a07dabc88889c10d9a3e901206", func := "exactreal/exactreallaw14.ExponentialEnds", spec := "exponentialEnds", unfollowed := true, recurses := true, named := ["math/bits.deBruijn32tab", "math/bits.overflowError"], apart := false, laid := [("math/bits.deBruijn32tab", laid_math_bits_deBruijn32tab)], narrowed := true }
def ExponentialEndsUptoSaid : Prop := exponentialEndsUptoRow.holds Tryz.pinned (OpenSpec.upto exponentialEndsSpec)

/-- 'exactreallaw14.ExponentialProducts', WHERE WHAT IT READS IS OF BULK AT MOST 1048576: true; the input reads as it did. -/
def exponentialProductsUptoRow : OpenClaim := { program := "ytnnfldkllhdhjaagreatdoor", sum := "7ff940ff0488d5406032f8e812c200210e36d5a07dabc88889c10d9a3e901206", func := "exactreal/exactreallaw14.ExponentialProducts", spec := "exponentialProducts", unfollowed := true, recurses := true, named := ["math/bits.deBruijn32tab", "math/bits.overflowError"], apart := false, laid := [("math/bits.deBruijn32tab", laid_math_bits_deBruijn32tab)], narrowed := true }
def ExponentialProductsUptoSaid : Prop := exponentialProductsUptoRow.holds Tryz.pinned (OpenSpec.upto exponentialProductsSpec)

/-- 'exactreallaw14.ExponentialRises', WHERE WHAT IT READS IS OF BULK AT MOST 1048576: true; the input reads as it did. -/
def exponentialRisesUptoRow : OpenClaim := { program := "ytnnfldkllhdhjaagreatdoor", sum := "7ff940ff0488d5406032f8e812c200210e36d5a07dabc88889c10d9a3e901206", func := "exactreal/exactreallaw14.ExponentialRises", spec := "exponentialRises", unfollowed := true, recurses := true, named := ["math/bits.deBruijn32tab", "math/bits.overflowError"], apart := false, laid := [("math/bits.deBruijn32tab", laid_math_bits_deBruijn32tab)], narrowed := true }
def ExponentialRisesUptoSaid : Prop := exponentialRisesUptoRow.holds Tryz.pinned (OpenSpec.upto exponentialRisesSpec)

/-- 'exactreallaw14.ExponentialReduces', WHERE WHAT IT READS IS OF BULK AT MOST 1048576: true; the input reads as it did. -/
def exponentialReducesUptoRow : OpenClaim := { program := "ytnnfldkllhdhjaagreatdoor", sum := "7ff940ff0488d5406032f8e812c200210e36d5a07dabc88889c10d9a3e901206", func := "exactreal/exactreallaw14.ExponentialReduces", spec := "exponentialReduces", unfollowed := true, recurses := true, named := ["math/bits.deBruijn32tab", "math/bits.overflowError"], apart := false, laid := [("math/bits.deBruijn32tab", laid_math_bits_deBruijn32tab)], narrowed := true }
def ExponentialReducesUptoSaid : Prop := exponentialReducesUptoRow.holds Tryz.pinned (OpenSpec.upto exponentialReducesSpec)

/-- 'exactreallaw14.ExponentialPoints', WHERE WHAT IT READS IS OF BULK AT MOST 1048576: true; the input reads as it did. -/
def exponentialPointsUptoRow : OpenClaim := { program := "ytnnfldkllhdhjaagreatdoor", sum := "7ff940ff0488d5406032f8e812c200210e36d5a07dabc88889c10d9a3e901206", func := "exactreal/exactreallaw14.ExponentialPoints", spec := "exponentialPoints", unfollowed := true, recurses := true, named := ["math/bits.deBruijn32tab", "math/bits.overflowError"], apart := false, laid := [("math/bits.deBruijn32tab", laid_math_bits_deBruijn32tab)], narrowed := true }
def ExponentialPointsUptoSaid : Prop := exponentialPointsUptoRow.holds Tryz.pinned (OpenSpec.upto exponentialPointsSpec)

end Rows
end Go.Proofs.YtnnfldkllhdhjaaGreatDoor
