/- The program's grid: the floor of a fraction. -/
import Derived.Test.YtgcmdlannbobgaaDoorGrPA
import Derived.Test.YtgcmdlannbobgaaDoorFloor
import Derived.Test.YtgcmdlannbobgaaDoorIntTwo
import Derived.Test.YtgcmdlannbobgaaDoorRefGrA
import Derived.Deep.RegionHeld3
import Derived.Deep.DrawnRows
import Derived.Deep.Cut
import Derived.Deep.CutRange
namespace Go.Proofs.YtgcmdlannbobgaaDoor
open Go.RowKit
set_option linter.unusedVariables false
set_option linter.unusedSimpArgs false
set_option maxRecDepth 100000
attribute [local go_sem ↓] Go.wp_at_zero Go.wp_at_succ

end Go.Proofs.YtgcmdlannbobgaaDoor
