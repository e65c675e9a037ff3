/-
  No cell of these rows narrows 'for every input' (looked for: loops, veiled, ifaces, maps, wideKeys, modest, calm, conditions, laid).
  DERIVED. THE GIVEN ROWS OF THIS SEAT. 5 by the template 'for every input the law returns true; each argument reads behind the call as it read before'; 0 by the template 'total and deterministic' (their statements: YtdlojigbphhjaaaTotals.lean).
  GIVEN WITH THE SEED: the statements are not yours to turn. If you find one false, say at which input.
  Laid BY PROGRAM, IN A SANDBOX (cutbox-rows.mjs): the forced cells as the released guide's own fill.sh prints them over the translation 972b81132508eda5… (all of the seat's roots in one cut). By AI agents, Wed Nov 11 2026. No macro, syntax, notation, axiom, sorry.
-/
import Derived.Test.YtdlojigbphhjaaaChecked
import GoSem.Claim
import GoSem.ClaimJoined
import GoSem.ClaimMapViews
import Derived.JoinedTies
import Derived.KernelRfl
namespace Go.Proofs.Ytdlojigbphhjaaa
/- THE CELL 'sum', in the pinned program and in every row, IS THE sha256 OF THE DUMP (.gsa) THAT YtdlojigbphhjaaaProg.lean LOADS. Nothing in Lean hashes anything: it is a label: what it is worth is what the hold of that sum in a sandbox is worth. -/
noncomputable def Try.pinned : Pinned := { name := "ytdlojigbphhjaaa", sum := "972b81132508eda549f559c2b72aef2f40132211bc41a3e396f9e31c7bb6d533", checked := Try.checked }
namespace Rows
def none {H : Type} : Left H := { results := [], args := [] }

/-- 'exactreallaw04.RootSqrt': WHATEVER THE INPUT: true; the input reads as it did. -/
def rootSqrtSpec : ChangeSpec := { name := "rootSqrt", fn := fun _ => fun
  | [d1, d2, d3] => { results := [.lit (.bool true)], args := [d1, d2, d3] }
  | _ => none }
def rootSqrtRow : OpenClaim := { program := "ytdlojigbphhjaaa", sum := "972b81132508eda549f559c2b72aef2f40132211bc41a3e396f9e31c7bb6d533", func := "exactreal/exactreallaw04.RootSqrt", spec := "rootSqrt", recurses := true, named := ["math/bits.overflowError"], apart := false }
def RootSqrtSaid : Prop := rootSqrtRow.holds Try.pinned (OpenSpec.ofChange rootSqrtSpec)

/-- ITS FALSE NEIGHBOUR: 'it returns false'. Refute it at one input. -/
def rootSqrtWrong : ChangeSpec := { name := "rootSqrt", fn := fun _ => fun
  | [d1, d2, d3] => { results := [.lit (.bool false)], args := [d1, d2, d3] }
  | _ => none }
def RootSqrtWrongFalsely : Prop := rootSqrtRow.holds Try.pinned (OpenSpec.ofChange rootSqrtWrong)

/-- 'exactreallaw04.RootSquares': WHATEVER THE INPUT: true; the input reads as it did. -/
def rootSquaresSpec : ChangeSpec := { name := "rootSquares", fn := fun _ => fun
  | [d] => { results := [.lit (.bool true)], args := [d] }
  | _ => none }
def rootSquaresRow : OpenClaim := { program := "ytdlojigbphhjaaa", sum := "972b81132508eda549f559c2b72aef2f40132211bc41a3e396f9e31c7bb6d533", func := "exactreal/exactreallaw04.RootSquares", spec := "rootSquares", recurses := true, named := ["math/bits.overflowError"], apart := false }
def RootSquaresSaid : Prop := rootSquaresRow.holds Try.pinned (OpenSpec.ofChange rootSquaresSpec)

/-- ITS FALSE NEIGHBOUR: 'it returns false'. Refute it at one input. -/
def rootSquaresWrong : ChangeSpec := { name := "rootSquares", fn := fun _ => fun
  | [d] => { results := [.lit (.bool false)], args := [d] }
  | _ => none }
def RootSquaresWrongFalsely : Prop := rootSquaresRow.holds Try.pinned (OpenSpec.ofChange rootSquaresWrong)

/-- 'exactreallaw04.RootRoots': WHATEVER THE INPUT: true; the input reads as it did. -/
def rootRootsSpec : ChangeSpec := { name := "rootRoots", fn := fun _ => fun
  | [d1, d2, d3] => { results := [.lit (.bool true)], args := [d1, d2, d3] }
  | _ => none }
def rootRootsRow : OpenClaim := { program := "ytdlojigbphhjaaa", sum := "972b81132508eda549f559c2b72aef2f40132211bc41a3e396f9e31c7bb6d533", func := "exactreal/exactreallaw04.RootRoots", spec := "rootRoots", recurses := true, named := ["math/bits.overflowError"], apart := false }
def RootRootsSaid : Prop := rootRootsRow.holds Try.pinned (OpenSpec.ofChange rootRootsSpec)

/-- ITS FALSE NEIGHBOUR: 'it returns false'. Refute it at one input. -/
def rootRootsWrong : ChangeSpec := { name := "rootRoots", fn := fun _ => fun
  | [d1, d2, d3] => { results := [.lit (.bool false)], args := [d1, d2, d3] }
  | _ => none }
def RootRootsWrongFalsely : Prop := rootRootsRow.holds Try.pinned (OpenSpec.ofChange rootRootsWrong)

/-- 'exactreallaw04.RootGcd': WHATEVER THE INPUT: true; the input reads as it did. -/
def rootGcdSpec : ChangeSpec := { name := "rootGcd", fn := fun _ => fun
  | [d1, d2, d3] => { results := [.lit (.bool true)], args := [d1, d2, d3] }
  | _ => none }
def rootGcdRow : OpenClaim := { program := "ytdlojigbphhjaaa", sum := "972b81132508eda549f559c2b72aef2f40132211bc41a3e396f9e31c7bb6d533", func := "exactreal/exactreallaw04.RootGcd", spec := "rootGcd", recurses := true, named := ["math/bits.overflowError"], apart := false }
def RootGcdSaid : Prop := rootGcdRow.holds Try.pinned (OpenSpec.ofChange rootGcdSpec)

/-- ITS FALSE NEIGHBOUR: 'it returns false'. Refute it at one input. -/
def rootGcdWrong : ChangeSpec := { name := "rootGcd", fn := fun _ => fun
  | [d1, d2, d3] => { results := [.lit (.bool false)], args := [d1, d2, d3] }
  | _ => none }
def RootGcdWrongFalsely : Prop := rootGcdRow.holds Try.pinned (OpenSpec.ofChange rootGcdWrong)

/-- 'exactreallaw04.RootLowest': WHATEVER THE INPUT: true; the input reads as it did. -/
def rootLowestSpec : ChangeSpec := { name := "rootLowest", fn := fun _ => fun
  | [d1, d2, d3] => { results := [.lit (.bool true)], args := [d1, d2, d3] }
  | _ => none }
def rootLowestRow : OpenClaim := { program := "ytdlojigbphhjaaa", sum := "972b81132508eda549f559c2b72aef2f40132211bc41a3e396f9e31c7bb6d533", func := "exactreal/exactreallaw04.RootLowest", spec := "rootLowest", recurses := true, named := ["math/bits.overflowError"], apart := false }
def RootLowestSaid : Prop := rootLowestRow.holds Try.pinned (OpenSpec.ofChange rootLowestSpec)

/-- ITS FALSE NEIGHBOUR: 'it returns false'. Refute it at one input. -/
def rootLowestWrong : ChangeSpec := { name := "rootLowest", fn := fun _ => fun
  | [d1, d2, d3] => { results := [.lit (.bool false)], args := [d1, d2, d3] }
  | _ => none }
def RootLowestWrongFalsely : Prop := rootLowestRow.holds Try.pinned (OpenSpec.ofChange rootLowestWrong)

/- THE SECOND FORM. 'bulk': how many values and letters a reading holds, each counted each time it is reached (what is shared counts as often as it is met; a slice's spare places count too). A statement '..UptoSaid' is the law's where the arguments, and the package variables that the reading takes, are together of bulk at most 1048576: NARROWER than '..Said'. Prove '..Said' where nothing that the law and all that it calls make is longer than what came in: it says more and counts as full. Else prove '..UptoSaid'. A law counts once. -/
mutual
def uptoBulk {H : Type} : DataW H → Nat
  | .lit (.string bytes) => bytes.length + 1
  | .lit _ => 1
  | .nil => 1
  | .ptr d => uptoBulk d + 1
  | .slice elems spare => uptoBulkAll elems + uptoBulkAll spare + 1
  | .agg parts => uptoBulkAll parts + 1
  | .iface _ d => uptoBulk d + 1
  | .map entries => uptoBulkEntries entries + 1
  | .held _ => 1
def uptoBulkAll {H : Type} : List (DataW H) → Nat
  | [] => 0
  | d :: r => uptoBulk d + uptoBulkAll r
def uptoBulkEntries {H : Type} : List (Lit × DataW H) → Nat
  | [] => 0
  | x :: r => uptoBulkEntry x + uptoBulkEntries r
def uptoBulkEntry {H : Type} : Lit × DataW H → Nat
  | (.string bytes, d) => bytes.length + uptoBulk d + 1
  | (_, d) => uptoBulk d + 1
 end
def uptoSmall : (H : Type) → List (DataW H) → Bool := fun _ ds => decide (uptoBulkAll ds ≤ 1048576)
def OpenSpec.upto (s : _root_.Go.ChangeSpec) : _root_.Go.OpenSpec := { _root_.Go.OpenSpec.ofChange s with cond := some uptoSmall }

/-- 'exactreallaw04.RootSqrt', WHERE WHAT IT READS IS OF BULK AT MOST 1048576: true; the input reads as it did. -/
def rootSqrtUptoRow : OpenClaim := { program := "ytdlojigbphhjaaa", sum := "972b81132508eda549f559c2b72aef2f40132211bc41a3e396f9e31c7bb6d533", func := "exactreal/exactreallaw04.RootSqrt", spec := "rootSqrt", recurses := true, named := ["math/bits.overflowError"], apart := false, narrowed := true }
def RootSqrtUptoSaid : Prop := rootSqrtUptoRow.holds Try.pinned (OpenSpec.upto rootSqrtSpec)

/-- 'exactreallaw04.RootSquares', WHERE WHAT IT READS IS OF BULK AT MOST 1048576: true; the input reads as it did. -/
def rootSquaresUptoRow : OpenClaim := { program := "ytdlojigbphhjaaa", sum := "972b81132508eda549f559c2b72aef2f40132211bc41a3e396f9e31c7bb6d533", func := "exactreal/exactreallaw04.RootSquares", spec := "rootSquares", recurses := true, named := ["math/bits.overflowError"], apart := false, narrowed := true }
def RootSquaresUptoSaid : Prop := rootSquaresUptoRow.holds Try.pinned (OpenSpec.upto rootSquaresSpec)

/-- 'exactreallaw04.RootRoots', WHERE WHAT IT READS IS OF BULK AT MOST 1048576: true; the input reads as it did. -/
def rootRootsUptoRow : OpenClaim := { program := "ytdlojigbphhjaaa", sum := "972b81132508eda549f559c2b72aef2f40132211bc41a3e396f9e31c7bb6d533", func := "exactreal/exactreallaw04.RootRoots", spec := "rootRoots", recurses := true, named := ["math/bits.overflowError"], apart := false, narrowed := true }
def RootRootsUptoSaid : Prop := rootRootsUptoRow.holds Try.pinned (OpenSpec.upto rootRootsSpec)

/-- 'exactreallaw04.RootGcd', WHERE WHAT IT READS IS OF BULK AT MOST 1048576: true; the input reads as it did. -/
def rootGcdUptoRow : OpenClaim := { program := "ytdlojigbphhjaaa", sum := "972b81132508eda549f559c2b72aef2f40132211bc41a3e396f9e31c7bb6d533", func := "exactreal/exactreallaw04.RootGcd", spec := "rootGcd", recurses := true, named := ["math/bits.overflowError"], apart := false, narrowed := true }
def RootGcdUptoSaid : Prop := rootGcdUptoRow.holds Try.pinned (OpenSpec.upto rootGcdSpec)

/-- 'exactreallaw04.RootLowest', WHERE WHAT IT READS IS OF BULK AT MOST 1048576: true; the input reads as it did. -/
def rootLowestUptoRow : OpenClaim := { program := "ytdlojigbphhjaaa", sum := "972b81132508eda549f559c2b72aef2f40132211bc41a3e396f9e31c7bb6d533", func := "exactreal/exactreallaw04.RootLowest", spec := "rootLowest", recurses := true, named := ["math/bits.overflowError"], apart := false, narrowed := true }
def RootLowestUptoSaid : Prop := rootLowestUptoRow.holds Try.pinned (OpenSpec.upto rootLowestSpec)

end Rows
end Go.Proofs.Ytdlojigbphhjaaa
