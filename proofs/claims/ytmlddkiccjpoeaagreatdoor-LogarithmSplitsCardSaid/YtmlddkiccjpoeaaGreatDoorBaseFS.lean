/- Base texts, joined: RefRatA, RefRatB, RefRatC, MillRat. -/
import Derived.Test.YtmlddkiccjpoeaaGreatDoorBaseDS
import Derived.Test.YtmlddkiccjpoeaaGreatDoorBaseSS
import Derived.Test.YtmlddkiccjpoeaaGreatDoorBaseJS
import Derived.Deep.RegionHeld3
import Derived.Deep.DrawnRows
import Derived.Test.YtmlddkiccjpoeaaGreatDoorBaseRS
import Derived.Deep.Cut
import Derived.Deep.CutRange
/- The reference's Lowest, Make, of, den, Of, Sign. -/
namespace Go.Proofs.YtmlddkiccjpoeaaGreatDoor
open Go.RowKit
set_option linter.unusedVariables false
set_option linter.unusedSimpArgs false
set_option maxRecDepth 100000
attribute [local go_sem ↓] Go.wp_at_zero Go.wp_at_succ

end Go.Proofs.YtmlddkiccjpoeaaGreatDoor


/- The reference's den, Sign, Neg, Add, Mul, Sub, Cmp, Div. -/
namespace Go.Proofs.YtmlddkiccjpoeaaGreatDoor
open Go.RowKit
set_option linter.unusedVariables false
set_option linter.unusedSimpArgs false
set_option maxRecDepth 100000
attribute [local go_sem ↓] Go.wp_at_zero Go.wp_at_succ

end Go.Proofs.YtmlddkiccjpoeaaGreatDoor


/- The reference's Div, Of, Same, Size, Sqrt; the mill's Rat. -/
namespace Go.Proofs.YtmlddkiccjpoeaaGreatDoor
open Go.RowKit
set_option linter.unusedVariables false
set_option linter.unusedSimpArgs false
set_option maxRecDepth 100000
attribute [local go_sem ↓] Go.wp_at_zero Go.wp_at_succ

end Go.Proofs.YtmlddkiccjpoeaaGreatDoor


/- The mill's Rat. -/
namespace Go.Proofs.YtmlddkiccjpoeaaGreatDoor
open Go.RowKit
set_option linter.unusedVariables false
set_option linter.unusedSimpArgs false
set_option maxRecDepth 100000
attribute [local go_sem ↓] Go.wp_at_zero Go.wp_at_succ

end Go.Proofs.YtmlddkiccjpoeaaGreatDoor

