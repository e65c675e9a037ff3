/- The reference's Natural. -/
import Derived.Test.YtbndgggjfjdfbabGreatDoorNatu
import Derived.Test.YtbndgggjfjdfbabGreatDoorHexMath
import Derived.Test.YtbndgggjfjdfbabGreatDoorBaseP
namespace Go.Proofs.YtbndgggjfjdfbabGreatDoor
open Go.RowKit
set_option linter.unusedVariables false
set_option linter.unusedSimpArgs false
set_option maxRecDepth 100000

theorem all_takeD {l : List Nat} {k : Nat} (h : (l.take k).all isD = true) (hk : k < l.length) (hp : isD (nth l k) = true) : (l.take (k + 1)).all isD = true := all_take h hk hp
theorem good_nil : good [] = false := rfl
theorem good_lead {l : List Nat} (h : 1 < l.length) (h2 : nth l 0 = 48) : good l = false := by
  unfold good
  rw [decide_eq_false (show ¬ l = [48] from fun e => by rw [e] at h; simp at h), decide_eq_false (show ¬ nth l 0 ≠ 48 from fun e => e h2), Bool.false_and, Bool.and_false]
  rfl
theorem good_rest {l : List Nat} (h : l ≠ []) (h2 : l.length = 1 ∨ nth l 0 ≠ 48) : good l = l.all isD := by
  unfold good
  by_cases h1 : l = [48]
  · subst h1; rfl
  · have h3 : nth l 0 ≠ 48 := by
      rcases h2 with h2 | h2
      · intro e
        apply h1
        match l, h2 with
        | [a], _ =>
          rw [nth_eq] at e
          have : a = 48 := e
          rw [this]
      · exact h2
    rw [decide_eq_false h1, decide_eq_true h, decide_eq_true h3, Bool.false_or, Bool.true_and, Bool.true_and]

end Go.Proofs.YtbndgggjfjdfbabGreatDoor
