/- The reference's Has, Hull, Meet. -/
import Derived.Test.YtgcmdlannbobgaaDoorRefIvA
import Derived.Test.YtgcmdlannbobgaaDoorIvWays
import Derived.Test.YtgcmdlannbobgaaDoorBaseF
import Derived.Deep.RegionHeld3
import Derived.Deep.DrawnRows
import Derived.Deep.Cut
import Derived.Deep.CutRange
namespace Go.Proofs.YtgcmdlannbobgaaDoor
open Go.RowKit
set_option linter.unusedVariables false
set_option linter.unusedSimpArgs false
set_option maxRecDepth 100000
attribute [local go_sem ↓] Go.wp_at_zero Go.wp_at_succ

/-- What Meet returns. -/
def mtB (m e n f m2 e2 n2 f2 : Int) : Bool := decide (dcm (gstD m e m2 e2).1 (gstD m e m2 e2).2 (lstD n f n2 f2).1 (lstD n f n2 f2).2 ≤ 0)
def RetMt (w : World) (m e n f m2 e2 n2 f2 : Int) : Ending → World → Prop := if mtB m e n f m2 e2 n2 f2 then RetIV w (gstD m e m2 e2).1 (gstD m e m2 e2).2 (lstD n f n2 f2).1 (lstD n f n2 f2).2 true else RetIV w 0 0 0 0 false
end Go.Proofs.YtgcmdlannbobgaaDoor
