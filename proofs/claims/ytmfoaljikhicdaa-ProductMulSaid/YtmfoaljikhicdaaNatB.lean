/- Walks: cmp.Compare at two types, nat.Cmp. -/
import Derived.Test.YtmfoaljikhicdaaNatA
namespace Go.Proofs.Ytmfoaljikhicdaa
open Go.RowKit

/-- An int is returned; nothing has turned but for draws. -/
def RetIQ (w : World) (x : Int) (e : Ending) (w' : World) : Prop := e = .returned (.int .i64 x) ∧ ∃ n, w' = w.drewN n

def SameAbove (x y : Nat) (t : Int) : Prop := ∀ j : Nat, t < j → nth (dig x) j = nth (dig y) j

end Go.Proofs.Ytmfoaljikhicdaa
