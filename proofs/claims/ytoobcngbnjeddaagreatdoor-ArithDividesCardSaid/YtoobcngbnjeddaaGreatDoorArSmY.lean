/- Which fractions have short cuts. -/
import Derived.Test.YtoobcngbnjeddaaGreatDoorBaseX
import Derived.Test.YtoobcngbnjeddaaGreatDoorMillAr
import Derived.Test.YtoobcngbnjeddaaGreatDoorArPE
import Derived.Test.YtoobcngbnjeddaaGreatDoorArDv
namespace Go.Proofs.YtoobcngbnjeddaaGreatDoor
open Go.RowKit
set_option linter.unusedVariables false
set_option linter.unusedSimpArgs false
set_option maxRecDepth 100000
attribute [local go_sem ↓] Go.wp_at_zero Go.wp_at_succ

end Go.Proofs.YtoobcngbnjeddaaGreatDoor
