/- The reference's Sqrt. -/
import Derived.Test.YtbndgggjfjdfbabGreatDoorRefRatC
import Derived.Deep.RegionHeld3
import Derived.Deep.DrawnRows
namespace Go.Proofs.YtbndgggjfjdfbabGreatDoor
open Go.RowKit
set_option linter.unusedVariables false
set_option linter.unusedSimpArgs false
set_option maxRecDepth 100000
attribute [local go_sem ↓] Go.wp_at_zero Go.wp_at_succ

/-- A pair that is a result, and whether it is one. -/
def RetPB (w : World) (a : Int) (d : Nat) (b : Bool) (e : Ending) (w' : World) : Prop := ∃ v, e = .returned (.tuple #[v, .bool b]) ∧ IsP w' v a d ∧ Below w.heap.size w w'
/-- Whether a pair has a root. -/
def sqP (a : Int) (d : Nat) : Bool := !ng a && sqB a.natAbs && sqB d

end Go.Proofs.YtbndgggjfjdfbabGreatDoor
