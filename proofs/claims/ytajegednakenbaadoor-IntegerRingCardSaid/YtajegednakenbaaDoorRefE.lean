/- Walks: the reference's Low, Bit, Bits, Zeros; Bit of the program at any int. -/
import Derived.Test.YtajegednakenbaaDoorRefD
import Derived.Test.YtajegednakenbaaDoorMill
namespace Go.Proofs.YtajegednakenbaaDoor
open Go.RowKit
set_option linter.unusedVariables false
set_option linter.unusedSimpArgs false

def NoBitFrom (x k : Nat) : Prop := ∀ j, k ≤ j → bitB x j = false
def NoBitTo (x k : Nat) : Prop := ∀ j, j < k → bitB x j = false

end Go.Proofs.YtajegednakenbaaDoor
