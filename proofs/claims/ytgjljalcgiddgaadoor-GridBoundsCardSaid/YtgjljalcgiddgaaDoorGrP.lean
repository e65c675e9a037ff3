/- The contracts of the program's package grid. -/
import Derived.Test.YtgjljalcgiddgaaDoorGrPC
import Derived.Test.YtgjljalcgiddgaaDoorGrPD
import Derived.Test.YtgjljalcgiddgaaDoorRefGrB
namespace Go.Proofs.YtgjljalcgiddgaaDoor
open Go.RowKit
set_option linter.unusedVariables false
set_option linter.unusedSimpArgs false
set_option maxRecDepth 100000
attribute [local go_sem ↓] Go.wp_at_zero Go.wp_at_succ


end Go.Proofs.YtgjljalcgiddgaaDoor
