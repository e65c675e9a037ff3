/- Walks: the reference's Shl, Shr, Low, Bit, Bits, Zeros; the mill's Nat and Mod. -/
import Derived.Test.YtckomgehfpiijaaRefC
import Derived.Test.YtckomgehfpiijaaNatG
namespace Go.Proofs.Ytckomgehfpiijaa
open Go.RowKit

end Go.Proofs.Ytckomgehfpiijaa
