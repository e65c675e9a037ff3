/- Floor of fractions: the program's and the reference's. -/
import Derived.Test.YtgcmdlannbobgaaDoorRatP
import Derived.Test.YtgcmdlannbobgaaDoorBaseD
import Derived.Test.YtgcmdlannbobgaaDoorRefDivMod
import Derived.Test.YtgcmdlannbobgaaDoorBaseI
import Derived.Deep.RegionHeld3
import Derived.Deep.DrawnRows
import Derived.Deep.Cut
import Derived.Deep.CutRange
namespace Go.Proofs.YtgcmdlannbobgaaDoor
open Go.RowKit
set_option linter.unusedVariables false
set_option linter.unusedSimpArgs false
set_option maxRecDepth 100000
attribute [local go_sem ↓] Go.wp_at_zero Go.wp_at_succ

end Go.Proofs.YtgcmdlannbobgaaDoor
