/- Walks: nat.Sub. -/
import Derived.Test.YtckomgehfpiijaaNatC
namespace Go.Proofs.Ytckomgehfpiijaa
open Go.RowKit

/-- The difference and true, or nothing and false. -/
def RetSub (w : World) (x y : Nat) (e : Ending) (w' : World) : Prop := RetNB w (if y ≤ x then x - y else 0) (decide (y ≤ x)) e w'
theorem retSub_no {w w' : World} {x y : Nat} (h : x < y) (hb : Below w.heap.size w w') : RetSub w x y (.returned (.tuple #[.slice none 0 0, .bool false])) w' := by
  unfold RetSub
  rw [if_neg (by omega), decide_eq_false (by omega)]
  exact ⟨_, rfl, by rw [dig_zero]; exact Own.nil _ _, hb⟩
theorem retSub_yes {w w' : World} {x y : Nat} {v : Value} (h : y ≤ x) (ho : Own w' w.heap.size v (dig (x - y))) (hb : Below w.heap.size w w') : RetSub w x y (.returned (.tuple #[v, .bool true])) w' := by
  unfold RetSub
  rw [if_pos h, decide_eq_true h]
  exact ⟨_, rfl, ho, hb⟩

end Go.Proofs.Ytckomgehfpiijaa
