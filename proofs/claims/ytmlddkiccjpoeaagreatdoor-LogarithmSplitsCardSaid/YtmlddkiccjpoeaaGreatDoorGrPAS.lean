/- The program's grid: which precisions are permitted; the helper with a function value; the floor of a dyadic. -/
import Derived.Test.YtmlddkiccjpoeaaGreatDoorBaseMS
import Derived.Test.YtmlddkiccjpoeaaGreatDoorBaseGS
import Derived.Deep.RegionHeld3
import Derived.Deep.DrawnRows
namespace Go.Proofs.YtmlddkiccjpoeaaGreatDoor
open Go.RowKit
set_option linter.unusedVariables false
set_option linter.unusedSimpArgs false
set_option maxRecDepth 100000
attribute [local go_sem ↓] Go.wp_at_zero Go.wp_at_succ

theorem Var.c10 {w : World} {g : Nat} {t : TypeId} {a : Value} (h : Var w g t #[a]) : w.cell? ⟨g, 0, none⟩ = some a := h.cell 0
end Go.Proofs.YtmlddkiccjpoeaaGreatDoor
