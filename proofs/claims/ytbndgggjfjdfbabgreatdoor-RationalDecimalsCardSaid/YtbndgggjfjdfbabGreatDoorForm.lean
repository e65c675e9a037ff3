/- decimal.Format. -/
import Derived.Test.YtbndgggjfjdfbabGreatDoorPars
namespace Go.Proofs.YtbndgggjfjdfbabGreatDoor
open Go.RowKit
set_option linter.unusedVariables false
set_option linter.unusedSimpArgs false
set_option maxRecDepth 100000
attribute [local go_sem ↓] Go.wp_at_zero Go.wp_at_succ

theorem cat_minus (l : List Nat) : (⟨#[45]⟩ : ByteArray) ++ str l = str (45 :: l) := by
  have e : (⟨#[45]⟩ : ByteArray) = str [45] := rfl
  rw [e, str_append]; rfl

end Go.Proofs.YtbndgggjfjdfbabGreatDoor
