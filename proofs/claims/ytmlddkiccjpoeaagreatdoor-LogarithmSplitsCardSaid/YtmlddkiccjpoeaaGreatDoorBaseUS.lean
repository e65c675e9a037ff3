/- Base texts, joined: RatP, Floor, GrPB, GrPD, GrP. -/
import Derived.Test.YtmlddkiccjpoeaaGreatDoorBaseDS
import Derived.Test.YtmlddkiccjpoeaaGreatDoorBaseSS
import Derived.Test.YtmlddkiccjpoeaaGreatDoorBaseIS
import Derived.Test.YtmlddkiccjpoeaaGreatDoorBaseNS
import Derived.Deep.RegionHeld3
import Derived.Deep.DrawnRows
import Derived.Test.YtmlddkiccjpoeaaGreatDoorRefDivModS
import Derived.Deep.Cut
import Derived.Deep.CutRange
import Derived.Test.YtmlddkiccjpoeaaGreatDoorGrPAS
import Derived.Test.YtmlddkiccjpoeaaGreatDoorBaseVS
import Derived.Test.YtmlddkiccjpoeaaGreatDoorRefGrAS
import Derived.Test.YtmlddkiccjpoeaaGreatDoorGrPCS
import Derived.Test.YtmlddkiccjpoeaaGreatDoorRefGrBS
/- The program's fractions: lowest, times, Make, Of, Sign, Neg, Mul, Cmp, Div. -/
namespace Go.Proofs.YtmlddkiccjpoeaaGreatDoor
open Go.RowKit
set_option linter.unusedVariables false
set_option linter.unusedSimpArgs false
set_option maxRecDepth 100000
attribute [local go_sem ↓] Go.wp_at_zero Go.wp_at_succ

end Go.Proofs.YtmlddkiccjpoeaaGreatDoor


/- Floor of fractions: the program's and the reference's. -/
namespace Go.Proofs.YtmlddkiccjpoeaaGreatDoor
open Go.RowKit
set_option linter.unusedVariables false
set_option linter.unusedSimpArgs false
set_option maxRecDepth 100000
attribute [local go_sem ↓] Go.wp_at_zero Go.wp_at_succ

end Go.Proofs.YtmlddkiccjpoeaaGreatDoor


/- The program's grid: the floor of a fraction. -/
namespace Go.Proofs.YtmlddkiccjpoeaaGreatDoor
open Go.RowKit
set_option linter.unusedVariables false
set_option linter.unusedSimpArgs false
set_option maxRecDepth 100000
attribute [local go_sem ↓] Go.wp_at_zero Go.wp_at_succ

end Go.Proofs.YtmlddkiccjpoeaaGreatDoor


/- The program's grid: the closures over fractions and what is made of them. -/
namespace Go.Proofs.YtmlddkiccjpoeaaGreatDoor
open Go.RowKit
set_option linter.unusedVariables false
set_option linter.unusedSimpArgs false
set_option maxRecDepth 100000
attribute [local go_sem ↓] Go.wp_at_zero Go.wp_at_succ

end Go.Proofs.YtmlddkiccjpoeaaGreatDoor


/- The contracts of the program's package grid. -/
namespace Go.Proofs.YtmlddkiccjpoeaaGreatDoor
open Go.RowKit
set_option linter.unusedVariables false
set_option linter.unusedSimpArgs false
set_option maxRecDepth 100000
attribute [local go_sem ↓] Go.wp_at_zero Go.wp_at_succ


end Go.Proofs.YtmlddkiccjpoeaaGreatDoor

