/- The reference's Cut. -/
import Derived.Test.YtmlddkiccjpoeaaGreatDoorBaseMS
import Derived.Test.YtmlddkiccjpoeaaGreatDoorRefDivModS
import Derived.Test.YtmlddkiccjpoeaaGreatDoorBaseES
import Derived.Test.YtmlddkiccjpoeaaGreatDoorBaseVS
import Derived.Deep.RegionHeld3
import Derived.Deep.DrawnRows
import Derived.Deep.Cut
import Derived.Deep.CutRange
namespace Go.Proofs.YtmlddkiccjpoeaaGreatDoor
open Go.RowKit
set_option linter.unusedVariables false
set_option linter.unusedSimpArgs false
set_option maxRecDepth 100000
attribute [local go_sem ↓] Go.wp_at_zero Go.wp_at_succ

end Go.Proofs.YtmlddkiccjpoeaaGreatDoor
