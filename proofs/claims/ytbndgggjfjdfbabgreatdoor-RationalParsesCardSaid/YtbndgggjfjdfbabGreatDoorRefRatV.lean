/- The reference's Valid. -/
import Derived.Test.YtbndgggjfjdfbabGreatDoorRefRatC
import Derived.Deep.RegionHeld3
import Derived.Deep.DrawnRows
namespace Go.Proofs.YtbndgggjfjdfbabGreatDoor
open Go.RowKit
set_option linter.unusedVariables false
set_option linter.unusedSimpArgs false
set_option maxRecDepth 100000
attribute [local go_sem ↓] Go.wp_at_zero Go.wp_at_succ

/-- Whether three cells are a valid fraction. -/
def qval (b : Bool) (l l2 : List Nat) : Bool := sval b l && isTrim l2 && decide (0 < l2.length) && sameB (Nat.gcd (val l) (val l2)) 1
theorem isN_trim {w : World} {A : Option Addr} {n c : Nat} {l : List Nat} (h : Sl w A n c l) (ht : isTrim l = true) : IsN w (.slice A n c) (val l) := by
  have h1 : dig (val l) = l := by
    rw [dig_val h.small, ← trim_take, of_decide_eq_true ht, List.take_length]
  exact ⟨A, n, c, rfl, by rw [h1]; exact h⟩

end Go.Proofs.YtbndgggjfjdfbabGreatDoor
