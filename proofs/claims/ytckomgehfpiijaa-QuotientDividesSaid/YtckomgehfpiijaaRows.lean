/-
  No cell of these rows narrows 'for every input' (looked for: loops, veiled, ifaces, maps, wideKeys, modest, calm, conditions, laid).
  DERIVED. THE GIVEN ROWS OF THIS SEAT. 5 by the template 'for every input the law returns true; each argument reads behind the call as it read before'; 0 by the template 'total and deterministic' (their statements: YtckomgehfpiijaaTotals.lean).
  GIVEN WITH THE SEED: the statements are not yours to turn. If you find one false, say at which input.
  Laid BY PROGRAM, IN A SANDBOX (cutbox-rows.mjs): the forced cells as the released guide's own fill.sh prints them over the translation 0dd61516793b5597… (all of the seat's roots in one cut). By AI agents, Wed Nov 11 2026. No macro, syntax, notation, axiom, sorry.
-/
import Derived.Test.YtckomgehfpiijaaChecked
import GoSem.Claim
import GoSem.ClaimJoined
import GoSem.ClaimMapViews
import Derived.JoinedTies
import Derived.KernelRfl
namespace Go.Proofs.Ytckomgehfpiijaa
/- THE CELL 'sum', in the pinned program and in every row, IS THE sha256 OF THE DUMP (.gsa) THAT YtckomgehfpiijaaProg.lean LOADS. Nothing in Lean hashes anything: it is a label: what it is worth is what the hold of that sum in a sandbox is worth. -/
noncomputable def Try.pinned : Pinned := { name := "ytckomgehfpiijaa", sum := "0dd61516793b55974aa7cae3bb1fbca4720f24a2b63cce95e9883f2b54c74d83", checked := Try.checked }
namespace Rows
def none {H : Type} : Left H := { results := [], args := [] }

/-- 'exactreallaw03.QuotientDivides': WHATEVER THE INPUT: true; the input reads as it did. -/
def quotientDividesSpec : ChangeSpec := { name := "quotientDivides", fn := fun _ => fun
  | [d1, d2] => { results := [.lit (.bool true)], args := [d1, d2] }
  | _ => none }
def quotientDividesRow : OpenClaim := { program := "ytckomgehfpiijaa", sum := "0dd61516793b55974aa7cae3bb1fbca4720f24a2b63cce95e9883f2b54c74d83", func := "exactreal/exactreallaw03.QuotientDivides", spec := "quotientDivides", named := ["math/bits.overflowError"], apart := false }
def QuotientDividesSaid : Prop := quotientDividesRow.holds Try.pinned (OpenSpec.ofChange quotientDividesSpec)

/-- ITS FALSE NEIGHBOUR: 'it returns false'. Refute it at one input. -/
def quotientDividesWrong : ChangeSpec := { name := "quotientDivides", fn := fun _ => fun
  | [d1, d2] => { results := [.lit (.bool false)], args := [d1, d2] }
  | _ => none }
def QuotientDividesWrongFalsely : Prop := quotientDividesRow.holds Try.pinned (OpenSpec.ofChange quotientDividesWrong)

/-- 'exactreallaw03.QuotientHard': WHATEVER THE INPUT: true; the input reads as it did. -/
def quotientHardSpec : ChangeSpec := { name := "quotientHard", fn := fun _ => fun
  | [d1, d2, d3, d4] => { results := [.lit (.bool true)], args := [d1, d2, d3, d4] }
  | _ => none }
def quotientHardRow : OpenClaim := { program := "ytckomgehfpiijaa", sum := "0dd61516793b55974aa7cae3bb1fbca4720f24a2b63cce95e9883f2b54c74d83", func := "exactreal/exactreallaw03.QuotientHard", spec := "quotientHard", named := ["math/bits.overflowError"], apart := false }
def QuotientHardSaid : Prop := quotientHardRow.holds Try.pinned (OpenSpec.ofChange quotientHardSpec)

/-- ITS FALSE NEIGHBOUR: 'it returns false'. Refute it at one input. -/
def quotientHardWrong : ChangeSpec := { name := "quotientHard", fn := fun _ => fun
  | [d1, d2, d3, d4] => { results := [.lit (.bool false)], args := [d1, d2, d3, d4] }
  | _ => none }
def QuotientHardWrongFalsely : Prop := quotientHardRow.holds Try.pinned (OpenSpec.ofChange quotientHardWrong)

/-- 'exactreallaw03.QuotientSmall': WHATEVER THE INPUT: true; the input reads as it did. -/
def quotientSmallSpec : ChangeSpec := { name := "quotientSmall", fn := fun _ => fun
  | [d1, d2] => { results := [.lit (.bool true)], args := [d1, d2] }
  | _ => none }
def quotientSmallRow : OpenClaim := { program := "ytckomgehfpiijaa", sum := "0dd61516793b55974aa7cae3bb1fbca4720f24a2b63cce95e9883f2b54c74d83", func := "exactreal/exactreallaw03.QuotientSmall", spec := "quotientSmall", named := ["math/bits.overflowError"], apart := false }
def QuotientSmallSaid : Prop := quotientSmallRow.holds Try.pinned (OpenSpec.ofChange quotientSmallSpec)

/-- ITS FALSE NEIGHBOUR: 'it returns false'. Refute it at one input. -/
def quotientSmallWrong : ChangeSpec := { name := "quotientSmall", fn := fun _ => fun
  | [d1, d2] => { results := [.lit (.bool false)], args := [d1, d2] }
  | _ => none }
def QuotientSmallWrongFalsely : Prop := quotientSmallRow.holds Try.pinned (OpenSpec.ofChange quotientSmallWrong)

/-- 'exactreallaw03.QuotientExact': WHATEVER THE INPUT: true; the input reads as it did. -/
def quotientExactSpec : ChangeSpec := { name := "quotientExact", fn := fun _ => fun
  | [d1, d2] => { results := [.lit (.bool true)], args := [d1, d2] }
  | _ => none }
def quotientExactRow : OpenClaim := { program := "ytckomgehfpiijaa", sum := "0dd61516793b55974aa7cae3bb1fbca4720f24a2b63cce95e9883f2b54c74d83", func := "exactreal/exactreallaw03.QuotientExact", spec := "quotientExact", named := ["math/bits.overflowError"], apart := false }
def QuotientExactSaid : Prop := quotientExactRow.holds Try.pinned (OpenSpec.ofChange quotientExactSpec)

/-- ITS FALSE NEIGHBOUR: 'it returns false'. Refute it at one input. -/
def quotientExactWrong : ChangeSpec := { name := "quotientExact", fn := fun _ => fun
  | [d1, d2] => { results := [.lit (.bool false)], args := [d1, d2] }
  | _ => none }
def QuotientExactWrongFalsely : Prop := quotientExactRow.holds Try.pinned (OpenSpec.ofChange quotientExactWrong)

/-- 'exactreallaw03.QuotientPowmod': WHATEVER THE INPUT: true; the input reads as it did. -/
def quotientPowmodSpec : ChangeSpec := { name := "quotientPowmod", fn := fun _ => fun
  | [d1, d2, d3] => { results := [.lit (.bool true)], args := [d1, d2, d3] }
  | _ => none }
def quotientPowmodRow : OpenClaim := { program := "ytckomgehfpiijaa", sum := "0dd61516793b55974aa7cae3bb1fbca4720f24a2b63cce95e9883f2b54c74d83", func := "exactreal/exactreallaw03.QuotientPowmod", spec := "quotientPowmod", named := ["math/bits.overflowError"], apart := false }
def QuotientPowmodSaid : Prop := quotientPowmodRow.holds Try.pinned (OpenSpec.ofChange quotientPowmodSpec)

/-- ITS FALSE NEIGHBOUR: 'it returns false'. Refute it at one input. -/
def quotientPowmodWrong : ChangeSpec := { name := "quotientPowmod", fn := fun _ => fun
  | [d1, d2, d3] => { results := [.lit (.bool false)], args := [d1, d2, d3] }
  | _ => none }
def QuotientPowmodWrongFalsely : Prop := quotientPowmodRow.holds Try.pinned (OpenSpec.ofChange quotientPowmodWrong)

/- THE SECOND FORM. 'bulk': how many values and letters a reading holds, each counted each time it is reached (what is shared counts as often as it is met; a slice's spare places count too). A statement '..UptoSaid' is the law's where the arguments, and the package variables that the reading takes, are together of bulk at most 1048576: NARROWER than '..Said'. Prove '..Said' where nothing that the law and all that it calls make is longer than what came in: it says more and counts as full. Else prove '..UptoSaid'. A law counts once. -/
mutual
def uptoBulk {H : Type} : DataW H → Nat
  | .lit (.string bytes) => bytes.length + 1
  | .lit _ => 1
  | .nil => 1
  | .ptr d => uptoBulk d + 1
  | .slice elems spare => uptoBulkAll elems + uptoBulkAll spare + 1
  | .agg parts => uptoBulkAll parts + 1
  | .iface _ d => uptoBulk d + 1
  | .map entries => uptoBulkEntries entries + 1
  | .held _ => 1
def uptoBulkAll {H : Type} : List (DataW H) → Nat
  | [] => 0
  | d :: r => uptoBulk d + uptoBulkAll r
def uptoBulkEntries {H : Type} : List (Lit × DataW H) → Nat
  | [] => 0
  | x :: r => uptoBulkEntry x + uptoBulkEntries r
def uptoBulkEntry {H : Type} : Lit × DataW H → Nat
  | (.string bytes, d) => bytes.length + uptoBulk d + 1
  | (_, d) => uptoBulk d + 1
 end
def uptoSmall : (H : Type) → List (DataW H) → Bool := fun _ ds => decide (uptoBulkAll ds ≤ 1048576)
def OpenSpec.upto (s : _root_.Go.ChangeSpec) : _root_.Go.OpenSpec := { _root_.Go.OpenSpec.ofChange s with cond := some uptoSmall }

/-- 'exactreallaw03.QuotientDivides', WHERE WHAT IT READS IS OF BULK AT MOST 1048576: true; the input reads as it did. -/
def quotientDividesUptoRow : OpenClaim := { program := "ytckomgehfpiijaa", sum := "0dd61516793b55974aa7cae3bb1fbca4720f24a2b63cce95e9883f2b54c74d83", func := "exactreal/exactreallaw03.QuotientDivides", spec := "quotientDivides", named := ["math/bits.overflowError"], apart := false, narrowed := true }
def QuotientDividesUptoSaid : Prop := quotientDividesUptoRow.holds Try.pinned (OpenSpec.upto quotientDividesSpec)

/-- 'exactreallaw03.QuotientHard', WHERE WHAT IT READS IS OF BULK AT MOST 1048576: true; the input reads as it did. -/
def quotientHardUptoRow : OpenClaim := { program := "ytckomgehfpiijaa", sum := "0dd61516793b55974aa7cae3bb1fbca4720f24a2b63cce95e9883f2b54c74d83", func := "exactreal/exactreallaw03.QuotientHard", spec := "quotientHard", named := ["math/bits.overflowError"], apart := false, narrowed := true }
def QuotientHardUptoSaid : Prop := quotientHardUptoRow.holds Try.pinned (OpenSpec.upto quotientHardSpec)

/-- 'exactreallaw03.QuotientSmall', WHERE WHAT IT READS IS OF BULK AT MOST 1048576: true; the input reads as it did. -/
def quotientSmallUptoRow : OpenClaim := { program := "ytckomgehfpiijaa", sum := "0dd61516793b55974aa7cae3bb1fbca4720f24a2b63cce95e9883f2b54c74d83", func := "exactreal/exactreallaw03.QuotientSmall", spec := "quotientSmall", named := ["math/bits.overflowError"], apart := false, narrowed := true }
def QuotientSmallUptoSaid : Prop := quotientSmallUptoRow.holds Try.pinned (OpenSpec.upto quotientSmallSpec)

/-- 'exactreallaw03.QuotientExact', WHERE WHAT IT READS IS OF BULK AT MOST 1048576: true; the input reads as it did. -/
def quotientExactUptoRow : OpenClaim := { program := "ytckomgehfpiijaa", sum := "0dd61516793b55974aa7cae3bb1fbca4720f24a2b63cce95e9883f2b54c74d83", func := "exactreal/exactreallaw03.QuotientExact", spec := "quotientExact", named := ["math/bits.overflowError"], apart := false, narrowed := true }
def QuotientExactUptoSaid : Prop := quotientExactUptoRow.holds Try.pinned (OpenSpec.upto quotientExactSpec)

/-- 'exactreallaw03.QuotientPowmod', WHERE WHAT IT READS IS OF BULK AT MOST 1048576: true; the input reads as it did. -/
def quotientPowmodUptoRow : OpenClaim := { program := "ytckomgehfpiijaa", sum := "0dd61516793b55974aa7cae3bb1fbca4720f24a2b63cce95e9883f2b54c74d83", func := "exactreal/exactreallaw03.QuotientPowmod", spec := "quotientPowmod", named := ["math/bits.overflowError"], apart := false, narrowed := true }
def QuotientPowmodUptoSaid : Prop := quotientPowmodUptoRow.holds Try.pinned (OpenSpec.upto quotientPowmodSpec)

end Rows
end Go.Proofs.Ytckomgehfpiijaa
