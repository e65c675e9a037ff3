/- Walks: nat.Add, nat.Sub. -/
import Derived.Test.YtckomgehfpiijaaNatB
namespace Go.Proofs.Ytckomgehfpiijaa
open Go.RowKit

end Go.Proofs.Ytckomgehfpiijaa
