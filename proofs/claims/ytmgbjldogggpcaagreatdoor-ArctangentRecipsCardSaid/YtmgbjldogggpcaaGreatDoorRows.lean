/-
  NARROWER THAN 'FOR EVERY INPUT', by the rows' own cells (each row's printed sentence says how): LogarithmClose: laid · LogarithmFar: laid · ArctangentClose: laid · ArctangentFar: laid · ArctangentOdd: laid · ArctangentPi: laid · ArctangentRecips: laid · ArctangentRises: laid.
  DERIVED. THE GIVEN ROWS OF THIS SEAT. 8 by the template 'for every input the law returns true; each argument reads behind the call as it read before'; 0 by the template 'total and deterministic' (their statements: YtmgbjldogggpcaaGreatDoorTotals.lean).
  GIVEN WITH THE SEED: the statements are not yours to turn. If you find one false, say at which input.
  Laid BY PROGRAM, IN A SANDBOX (cutbox-rows.mjs): the forced cells as the released guide's own fill.sh prints them over the translation d255067bfb156e06… (all of the seat's roots in one cut). By AI agents, Wed Nov 11 2026. No macro, syntax, notation, axiom, sorry.
-/
import Derived.Test.YtmgbjldogggpcaaGreatDoorChecked
import GoSem.Claim
import GoSem.ClaimJoined
import GoSem.ClaimMapViews
import Derived.JoinedTies
import Derived.KernelRfl
namespace Go.Proofs.YtmgbjldogggpcaaGreatDoor
/- THE CELL 'sum', in the pinned program and in every row, IS THE sha256 OF THE DUMP (.gsa) THAT YtmgbjldogggpcaaGreatDoorProg.lean LOADS. Nothing in Lean hashes anything: it is a label: what it is worth is what the hold of that sum in a sandbox is worth. -/
noncomputable def Tryz.pinned : Pinned := { name := "ytmgbjldogggpcaagreatdoor", sum := "d255067bfb156e068cfe415dad6141fdb869d54b006f11f9c1c712710086c40b", checked := Tryz.checked }
namespace Rows
def none {H : Type} : Left H := { results := [], args := [] }

/- WHAT THE LISTED PACKAGE-LEVEL VARIABLES READ AS WHEN THE CALL BEGINS. Each datum BY PROGRAM (the guide's laid-datum.mjs) off the statement by which the dump's own 'gosem.cut.vars' lays the variable. In a bare row this is a premise. The card (YtmgbjldogggpcaaGreatDoorCards.lean) ties it to the program's text. -/
def laid_math_bits_deBruijn32tab {H : Type} : DataW H := .agg [.lit (.int .u8 0), .lit (.int .u8 1), .lit (.int .u8 28), .lit (.int .u8 2), .lit (.int .u8 29), .lit (.int .u8 14), .lit (.int .u8 24), .lit (.int .u8 3), .lit (.int .u8 30), .lit (.int .u8 22), .lit (.int .u8 20), .lit (.int .u8 15), .lit (.int .u8 25), .lit (.int .u8 17), .lit (.int .u8 4), .lit (.int .u8 8), .lit (.int .u8 31), .lit (.int .u8 27), .lit (.int .u8 13), .lit (.int .u8 23), .lit (.int .u8 21), .lit (.int .u8 19), .lit (.int .u8 16), .lit (.int .u8 7), .lit (.int .u8 26), .lit (.int .u8 12), .lit (.int .u8 18), .lit (.int .u8 6), .lit (.int .u8 11), .lit (.int .u8 5), .lit (.int .u8 10), .lit (.int .u8 9)]

/-- 'exactreallaw15.LogarithmClose': WHATEVER THE INPUT: true; the input reads as it did. -/
def logarithmCloseSpec : ChangeSpec := { name := "logarithmClose", fn := fun _ => fun
  | [d1, d2, d3] => { results := [.lit (.bool true)], args := [d1, d2, d3] }
  | _ => none }
def logarithmCloseRow : OpenClaim := { program := "ytmgbjldogggpcaagreatdoor", sum := "d255067bfb156e068cfe415dad6141fdb869d54b006f11f9c1c712710086c40b", func := "exactreal/exactreallaw15.LogarithmClose", spec := "logarithmClose", unfollowed := true, recurses := true, named := ["math/bits.overflowError", "math/bits.deBruijn32tab"], apart := false, laid := [("math/bits.deBruijn32tab", laid_math_bits_deBruijn32tab)] }
def LogarithmCloseSaid : Prop := logarithmCloseRow.holds Tryz.pinned (OpenSpec.ofChange logarithmCloseSpec)

/-- ITS FALSE NEIGHBOUR: 'it returns false'. Refute it at one input. -/
def logarithmCloseWrong : ChangeSpec := { name := "logarithmClose", fn := fun _ => fun
  | [d1, d2, d3] => { results := [.lit (.bool false)], args := [d1, d2, d3] }
  | _ => none }
def LogarithmCloseWrongFalsely : Prop := logarithmCloseRow.holds Tryz.pinned (OpenSpec.ofChange logarithmCloseWrong)

/-- 'exactreallaw15.LogarithmFar': WHATEVER THE INPUT: true; the input reads as it did. -/
def logarithmFarSpec : ChangeSpec := { name := "logarithmFar", fn := fun _ => fun
  | [d1, d2, d3] => { results := [.lit (.bool true)], args := [d1, d2, d3] }
  | _ => none }
def logarithmFarRow : OpenClaim := { program := "ytmgbjldogggpcaagreatdoor", sum := "d255067bfb156e068cfe415dad6141fdb869d54b006f11f9c1c712710086c40b", func := "exactreal/exactreallaw15.LogarithmFar", spec := "logarithmFar", unfollowed := true, recurses := true, named := ["math/bits.overflowError", "math/bits.deBruijn32tab"], apart := false, laid := [("math/bits.deBruijn32tab", laid_math_bits_deBruijn32tab)] }
def LogarithmFarSaid : Prop := logarithmFarRow.holds Tryz.pinned (OpenSpec.ofChange logarithmFarSpec)

/-- ITS FALSE NEIGHBOUR: 'it returns false'. Refute it at one input. -/
def logarithmFarWrong : ChangeSpec := { name := "logarithmFar", fn := fun _ => fun
  | [d1, d2, d3] => { results := [.lit (.bool false)], args := [d1, d2, d3] }
  | _ => none }
def LogarithmFarWrongFalsely : Prop := logarithmFarRow.holds Tryz.pinned (OpenSpec.ofChange logarithmFarWrong)

/-- 'exactreallaw16.ArctangentClose': WHATEVER THE INPUT: true; the input reads as it did. -/
def arctangentCloseSpec : ChangeSpec := { name := "arctangentClose", fn := fun _ => fun
  | [d1, d2, d3] => { results := [.lit (.bool true)], args := [d1, d2, d3] }
  | _ => none }
def arctangentCloseRow : OpenClaim := { program := "ytmgbjldogggpcaagreatdoor", sum := "d255067bfb156e068cfe415dad6141fdb869d54b006f11f9c1c712710086c40b", func := "exactreal/exactreallaw16.ArctangentClose", spec := "arctangentClose", unfollowed := true, recurses := true, named := ["math/bits.deBruijn32tab", "math/bits.overflowError"], apart := false, laid := [("math/bits.deBruijn32tab", laid_math_bits_deBruijn32tab)] }
def ArctangentCloseSaid : Prop := arctangentCloseRow.holds Tryz.pinned (OpenSpec.ofChange arctangentCloseSpec)

/-- ITS FALSE NEIGHBOUR: 'it returns false'. Refute it at one input. -/
def arctangentCloseWrong : ChangeSpec := { name := "arctangentClose", fn := fun _ => fun
  | [d1, d2, d3] => { results := [.lit (.bool false)], args := [d1, d2, d3] }
  | _ => none }
def ArctangentCloseWrongFalsely : Prop := arctangentCloseRow.holds Tryz.pinned (OpenSpec.ofChange arctangentCloseWrong)

/-- 'exactreallaw16.ArctangentFar': WHATEVER THE INPUT: true; the input reads as it did. -/
def arctangentFarSpec : ChangeSpec := { name := "arctangentFar", fn := fun _ => fun
  | [d1, d2, d3] => { results := [.lit (.bool true)], args := [d1, d2, d3] }
  | _ => none }
def arctangentFarRow : OpenClaim := { program := "ytmgbjldogggpcaagreatdoor", sum := "d255067bfb156e068cfe415dad6141fdb869d54b006f11f9c1c712710086c40b", func := "exactreal/exactreallaw16.ArctangentFar", spec := "arctangentFar", unfollowed := true, recurses := true, named := ["math/bits.deBruijn32tab", "math/bits.overflowError"], apart := false, laid := [("math/bits.deBruijn32tab", laid_math_bits_deBruijn32tab)] }
def ArctangentFarSaid : Prop := arctangentFarRow.holds Tryz.pinned (OpenSpec.ofChange arctangentFarSpec)

/-- ITS FALSE NEIGHBOUR: 'it returns false'. Refute it at one input. -/
def arctangentFarWrong : ChangeSpec := { name := "arctangentFar", fn := fun _ => fun
  | [d1, d2, d3] => { results := [.lit (.bool false)], args := [d1, d2, d3] }
  | _ => none }
def ArctangentFarWrongFalsely : Prop := arctangentFarRow.holds Tryz.pinned (OpenSpec.ofChange arctangentFarWrong)

/-- 'exactreallaw16.ArctangentOdd': WHATEVER THE INPUT: true; the input reads as it did. -/
def arctangentOddSpec : ChangeSpec := { name := "arctangentOdd", fn := fun _ => fun
  | [d1, d2] => { results := [.lit (.bool true)], args := [d1, d2] }
  | _ => none }
def arctangentOddRow : OpenClaim := { program := "ytmgbjldogggpcaagreatdoor", sum := "d255067bfb156e068cfe415dad6141fdb869d54b006f11f9c1c712710086c40b", func := "exactreal/exactreallaw16.ArctangentOdd", spec := "arctangentOdd", unfollowed := true, recurses := true, named := ["math/bits.deBruijn32tab", "math/bits.overflowError"], apart := false, laid := [("math/bits.deBruijn32tab", laid_math_bits_deBruijn32tab)] }
def ArctangentOddSaid : Prop := arctangentOddRow.holds Tryz.pinned (OpenSpec.ofChange arctangentOddSpec)

/-- ITS FALSE NEIGHBOUR: 'it returns false'. Refute it at one input. -/
def arctangentOddWrong : ChangeSpec := { name := "arctangentOdd", fn := fun _ => fun
  | [d1, d2] => { results := [.lit (.bool false)], args := [d1, d2] }
  | _ => none }
def ArctangentOddWrongFalsely : Prop := arctangentOddRow.holds Tryz.pinned (OpenSpec.ofChange arctangentOddWrong)

/-- 'exactreallaw16.ArctangentPi': WHATEVER THE INPUT: true; the input reads as it did. -/
def arctangentPiSpec : ChangeSpec := { name := "arctangentPi", fn := fun _ => fun
  | [d] => { results := [.lit (.bool true)], args := [d] }
  | _ => none }
def arctangentPiRow : OpenClaim := { program := "ytmgbjldogggpcaagreatdoor", sum := "d255067bfb156e068cfe415dad6141fdb869d54b006f11f9c1c712710086c40b", func := "exactreal/exactreallaw16.ArctangentPi", spec := "arctangentPi", unfollowed := true, recurses := true, named := ["math/bits.deBruijn32tab", "math/bits.overflowError"], apart := false, laid := [("math/bits.deBruijn32tab", laid_math_bits_deBruijn32tab)] }
def ArctangentPiSaid : Prop := arctangentPiRow.holds Tryz.pinned (OpenSpec.ofChange arctangentPiSpec)

/-- ITS FALSE NEIGHBOUR: 'it returns false'. Refute it at one input. -/
def arctangentPiWrong : ChangeSpec := { name := "arctangentPi", fn := fun _ => fun
  | [d] => { results := [.lit (.bool false)], args := [d] }
  | _ => none }
def ArctangentPiWrongFalsely : Prop := arctangentPiRow.holds Tryz.pinned (OpenSpec.ofChange arctangentPiWrong)

/-- 'exactreallaw16.ArctangentRecips': WHATEVER THE INPUT: true; the input reads as it did. -/
def arctangentRecipsSpec : ChangeSpec := { name := "arctangentRecips", fn := fun _ => fun
  | [d1, d2] => { results := [.lit (.bool true)], args := [d1, d2] }
  | _ => none }
def arctangentRecipsRow : OpenClaim := { program := "ytmgbjldogggpcaagreatdoor", sum := "d255067bfb156e068cfe415dad6141fdb869d54b006f11f9c1c712710086c40b", func := "exactreal/exactreallaw16.ArctangentRecips", spec := "arctangentRecips", unfollowed := true, recurses := true, named := ["math/bits.deBruijn32tab", "math/bits.overflowError"], apart := false, laid := [("math/bits.deBruijn32tab", laid_math_bits_deBruijn32tab)] }
def ArctangentRecipsSaid : Prop := arctangentRecipsRow.holds Tryz.pinned (OpenSpec.ofChange arctangentRecipsSpec)

/-- ITS FALSE NEIGHBOUR: 'it returns false'. Refute it at one input. -/
def arctangentRecipsWrong : ChangeSpec := { name := "arctangentRecips", fn := fun _ => fun
  | [d1, d2] => { results := [.lit (.bool false)], args := [d1, d2] }
  | _ => none }
def ArctangentRecipsWrongFalsely : Prop := arctangentRecipsRow.holds Tryz.pinned (OpenSpec.ofChange arctangentRecipsWrong)

/-- 'exactreallaw16.ArctangentRises': WHATEVER THE INPUT: true; the input reads as it did. -/
def arctangentRisesSpec : ChangeSpec := { name := "arctangentRises", fn := fun _ => fun
  | [d1, d2, d3] => { results := [.lit (.bool true)], args := [d1, d2, d3] }
  | _ => none }
def arctangentRisesRow : OpenClaim := { program := "ytmgbjldogggpcaagreatdoor", sum := "d255067bfb156e068cfe415dad6141fdb869d54b006f11f9c1c712710086c40b", func := "exactreal/exactreallaw16.ArctangentRises", spec := "arctangentRises", unfollowed := true, recurses := true, named := ["math/bits.deBruijn32tab", "math/bits.overflowError"], apart := false, laid := [("math/bits.deBruijn32tab", laid_math_bits_deBruijn32tab)] }
def ArctangentRisesSaid : Prop := arctangentRisesRow.holds Tryz.pinned (OpenSpec.ofChange arctangentRisesSpec)

/-- ITS FALSE NEIGHBOUR: 'it returns false'. Refute it at one input. -/
def arctangentRisesWrong : ChangeSpec := { name := "arctangentRises", fn := fun _ => fun
  | [d1, d2, d3] => { results := [.lit (.bool false)], args := [d1, d2, d3] }
  | _ => none }
def ArctangentRisesWrongFalsely : Prop := arctangentRisesRow.holds Tryz.pinned (OpenSpec.ofChange arctangentRisesWrong)

/- THE SECOND FORM. 'bulk': how many values and letters a reading holds, each counted each time it is reached (what is shared counts as often as it is met; a slice's spare places count too). A statement '..UptoSaid' is the law's where the arguments, and the package variables that the reading takes, are together of bulk at most 1048576: NARROWER than '..Said'. Prove '..Said' where nothing that the law and all that it calls make is longer than what came in: it says more and counts as full. Else prove '..UptoSaid'. A law counts once. -/
mutual
def uptoBulk {H : Type} : DataW H → Nat
  | .lit (.string bytes) => bytes.length + 1
  | .lit _ => 1
  | .nil => 1
  | .ptr d => uptoBulk d + 1
  | .slice elems spare => uptoBulkAll elems + uptoBulkAll spare + 1
  | .agg parts => uptoBulkAll parts + 1
  | .iface _ d => uptoBulk d + 1
  | .map entries => uptoBulkEntries entries + 1
  | .held _ => 1
def uptoBulkAll {H : Type} : List (DataW H) → Nat
  | [] => 0
  | d :: r => uptoBulk d + uptoBulkAll r
def uptoBulkEntries {H : Type} : List (Lit × DataW H) → Nat
  | [] => 0
  | x :: r => uptoBulkEntry x + uptoBulkEntries r
def uptoBulkEntry {H : Type} : Lit × DataW H → Nat
  | (.string bytes, d) => bytes.length + uptoBulk d + 1
  | (_, d) => uptoBulk d + 1
 end
def uptoSmall : (H : Type) → List (DataW H) → Bool := fun _ ds => decide (uptoBulkAll ds ≤ 1048576)
def OpenSpec.upto (s : _root_.Go.ChangeSpec) : _root_.Go.OpenSpec := { _root_.Go.OpenSpec.ofChange s with cond := some uptoSmall }

/-- 'exactreallaw15.LogarithmClose', WHERE WHAT IT READS IS OF BULK AT MOST 1048576: true; the input reads as it did. -/
def logarithmCloseUptoRow : OpenClaim := { program := "ytmgbjldogggpcaagreatdoor", sum := "d255067bfb156e068cfe415dad6141fdb869d54b006f11f9c1c712710086c40b", func := "exactreal/exactreallaw15.LogarithmClose", spec := "logarithmClose", unfollowed := true, recurses := true, named := ["math/bits.overflowError", "math/bits.deBruijn32tab"], apart := false, laid := [("math/bits.deBruijn32tab", laid_math_bits_deBruijn32tab)], narrowed := true }
def LogarithmCloseUptoSaid : Prop := logarithmCloseUptoRow.holds Tryz.pinned (OpenSpec.upto logarithmCloseSpec)

/-- 'exactreallaw15.LogarithmFar', WHERE WHAT IT READS IS OF BULK AT MOST 1048576: true; the input reads as it did. -/
def logarithmFarUptoRow : OpenClaim := { program := "ytmgbjldogggpcaagreatdoor", sum := "d255067bfb156e068cfe415dad6141fdb869d54b006f11f9c1c712710086c40b", func := "exactreal/exactreallaw15.LogarithmFar", spec := "logarithmFar", unfollowed := true, recurses := true, named := ["math/bits.overflowError", "math/bits.deBruijn32tab"], apart := false, laid := [("math/bits.deBruijn32tab", laid_math_bits_deBruijn32tab)], narrowed := true }
def LogarithmFarUptoSaid : Prop := logarithmFarUptoRow.holds Tryz.pinned (OpenSpec.upto logarithmFarSpec)

/-- 'exactreallaw16.ArctangentClose', WHERE WHAT IT READS IS OF BULK AT MOST 1048576: true; the input reads as it did. -/
def arctangentCloseUptoRow : OpenClaim := { program := "ytmgbjldogggpcaagreatdoor", sum := "d255067bfb156e068cfe415dad6141fdb869d54b006f11f9c1c712710086c40b", func := "exactreal/exactreallaw16.ArctangentClose", spec := "arctangentClose", unfollowed := true, recurses := true, named := ["math/bits.deBruijn32tab", "math/bits.overflowError"], apart := false, laid := [("math/bits.deBruijn32tab", laid_math_bits_deBruijn32tab)], narrowed := true }
def ArctangentCloseUptoSaid : Prop := arctangentCloseUptoRow.holds Tryz.pinned (OpenSpec.upto arctangentCloseSpec)

/-- 'exactreallaw16.ArctangentFar', WHERE WHAT IT READS IS OF BULK AT MOST 1048576: true; the input reads as it did. -/
def arctangentFarUptoRow : OpenClaim := { program := "ytmgbjldogggpcaagreatdoor", sum := "d255067bfb156e068cfe415dad6141fdb869d54b006f11f9c1c712710086c40b", func := "exactreal/exactreallaw16.ArctangentFar", spec := "arctangentFar", unfollowed := true, recurses := true, named := ["math/bits.deBruijn32tab", "math/bits.overflowError"], apart := false, laid := [("math/bits.deBruijn32tab", laid_math_bits_deBruijn32tab)], narrowed := true }
def ArctangentFarUptoSaid : Prop := arctangentFarUptoRow.holds Tryz.pinned (OpenSpec.upto arctangentFarSpec)

/-- 'exactreallaw16.ArctangentOdd', WHERE WHAT IT READS IS OF BULK AT MOST 1048576: true; the input reads as it did. -/
def arctangentOddUptoRow : OpenClaim := { program := "ytmgbjldogggpcaagreatdoor", sum := "d255067bfb156e068cfe415dad6141fdb869d54b006f11f9c1c712710086c40b", func := "exactreal/exactreallaw16.ArctangentOdd", spec := "arctangentOdd", unfollowed := true, recurses := true, named := ["math/bits.deBruijn32tab", "math/bits.overflowError"], apart := false, laid := [("math/bits.deBruijn32tab", laid_math_bits_deBruijn32tab)], narrowed := true }
def ArctangentOddUptoSaid : Prop := arctangentOddUptoRow.holds Tryz.pinned (OpenSpec.upto arctangentOddSpec)

/-- 'exactreallaw16.ArctangentPi', WHERE WHAT IT READS IS OF BULK AT MOST 1048576: true; the input reads as it did. -/
def arctangentPiUptoRow : OpenClaim := { program := "ytmgbjldogggpcaagreatdoor", sum := "d255067bfb156e068cfe415dad6141fdb869d54b006f11f9c1c712710086c40b", func := "exactreal/exactreallaw16.ArctangentPi", spec := "arctangentPi", unfollowed := true, recurses := true, named := ["math/bits.deBruijn32tab", "math/bits.overflowError"], apart := false, laid := [("math/bits.deBruijn32tab", laid_math_bits_deBruijn32tab)], narrowed := true }
def ArctangentPiUptoSaid : Prop := arctangentPiUptoRow.holds Tryz.pinned (OpenSpec.upto arctangentPiSpec)

/-- 'exactreallaw16.ArctangentRecips', WHERE WHAT IT READS IS OF BULK AT MOST 1048576: true; the input reads as it did. -/
def arctangentRecipsUptoRow : OpenClaim := { program := "ytmgbjldogggpcaagreatdoor", sum := "d255067bfb156e068cfe415dad6141fdb869d54b006f11f9c1c712710086c40b", func := "exactreal/exactreallaw16.ArctangentRecips", spec := "arctangentRecips", unfollowed := true, recurses := true, named := ["math/bits.deBruijn32tab", "math/bits.overflowError"], apart := false, laid := [("math/bits.deBruijn32tab", laid_math_bits_deBruijn32tab)], narrowed := true }
def ArctangentRecipsUptoSaid : Prop := arctangentRecipsUptoRow.holds Tryz.pinned (OpenSpec.upto arctangentRecipsSpec)

/-- 'exactreallaw16.ArctangentRises', WHERE WHAT IT READS IS OF BULK AT MOST 1048576: true; the input reads as it did. -/
def arctangentRisesUptoRow : OpenClaim := { program := "ytmgbjldogggpcaagreatdoor", sum := "d255067bfb156e068cfe415dad6141fdb869d54b006f11f9c1c712710086c40b", func := "exactreal/exactreallaw16.ArctangentRises", spec := "arctangentRises", unfollowed := true, recurses := true, named := ["math/bits.deBruijn32tab", "math/bits.overflowError"], apart := false, laid := [("math/bits.deBruijn32tab", laid_math_bits_deBruijn32tab)], narrowed := true }
def ArctangentRisesUptoSaid : Prop := arctangentRisesUptoRow.holds Tryz.pinned (OpenSpec.upto arctangentRisesSpec)

end Rows
end Go.Proofs.YtmgbjldogggpcaaGreatDoor
