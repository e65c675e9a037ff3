/- The contracts of the program's package grid. -/
import Derived.Test.YtgcmdlannbobgaaDoorGrPC
import Derived.Test.YtgcmdlannbobgaaDoorGrPD
import Derived.Test.YtgcmdlannbobgaaDoorRefGrB
namespace Go.Proofs.YtgcmdlannbobgaaDoor
open Go.RowKit
set_option linter.unusedVariables false
set_option linter.unusedSimpArgs false
set_option maxRecDepth 100000
attribute [local go_sem ↓] Go.wp_at_zero Go.wp_at_succ


end Go.Proofs.YtgcmdlannbobgaaDoor
