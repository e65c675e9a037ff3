/- Base texts, joined: RefRatA, RefRatB, RefRatC, MillRat. -/
import Derived.Test.YtfnklkdbieikeaaGreatDoorBaseD
import Derived.Test.YtfnklkdbieikeaaGreatDoorBaseS
import Derived.Test.YtfnklkdbieikeaaGreatDoorBaseJ
import Derived.Deep.RegionHeld3
import Derived.Deep.DrawnRows
import Derived.Test.YtfnklkdbieikeaaGreatDoorBaseR
import Derived.Deep.Cut
import Derived.Deep.CutRange
/- The reference's Lowest, Make, of, den, Of, Sign. -/
namespace Go.Proofs.YtfnklkdbieikeaaGreatDoor
open Go.RowKit
set_option linter.unusedVariables false
set_option linter.unusedSimpArgs false
set_option maxRecDepth 100000
attribute [local go_sem ↓] Go.wp_at_zero Go.wp_at_succ

/-- Two naturals and true. -/
def Ret2N (w : World) (x y : Nat) (e : Ending) (w' : World) : Prop := ∃ v u, e = .returned (.tuple #[v, u, .bool true]) ∧ IsN w' v x ∧ IsN w' u y ∧ Below w.heap.size w w'
theorem len_div_le (x g : Nat) : len (x / g) ≤ len x := len_mono (Nat.div_le_self _ _)
end Go.Proofs.YtfnklkdbieikeaaGreatDoor


/- The reference's den, Sign, Neg, Add, Mul, Sub, Cmp, Div. -/
namespace Go.Proofs.YtfnklkdbieikeaaGreatDoor
open Go.RowKit
set_option linter.unusedVariables false
set_option linter.unusedSimpArgs false
set_option maxRecDepth 100000
attribute [local go_sem ↓] Go.wp_at_zero Go.wp_at_succ

end Go.Proofs.YtfnklkdbieikeaaGreatDoor


/- The reference's Div, Of, Same, Size, Sqrt; the mill's Rat. -/
namespace Go.Proofs.YtfnklkdbieikeaaGreatDoor
open Go.RowKit
set_option linter.unusedVariables false
set_option linter.unusedSimpArgs false
set_option maxRecDepth 100000
attribute [local go_sem ↓] Go.wp_at_zero Go.wp_at_succ

end Go.Proofs.YtfnklkdbieikeaaGreatDoor


/- The mill's Rat. -/
namespace Go.Proofs.YtfnklkdbieikeaaGreatDoor
open Go.RowKit
set_option linter.unusedVariables false
set_option linter.unusedSimpArgs false
set_option maxRecDepth 100000
attribute [local go_sem ↓] Go.wp_at_zero Go.wp_at_succ

/-- A valid fraction that is short enough, or a zero value, and whether it is. -/
def RetMillQ (w : World) (k : Nat) (e : Ending) (w' : World) : Prop := ∃ v ok a d, e = .returned (.tuple #[v, .bool ok]) ∧ IsP w' v a d ∧ zl a ≤ k + 1 ∧ len d ≤ k + 1 ∧ (ok = true → ∃ q : Rat, a = q.num ∧ d = q.den) ∧ Below w.heap.size w w'
theorem divInt_small (n : Int) (m : Nat) (k : Nat) (hn : zl n ≤ k) (hm : len m ≤ k) (h0 : 0 < m) : zl (Rat.divInt n (m : Int)).num ≤ k ∧ len (Rat.divInt n (m : Int)).den ≤ k := by
  obtain ⟨e1, e2⟩ := divInt_pair n (m : Int) (by omega)
  rw [e1, e2, zl_sg, Int.natAbs_natCast]
  exact ⟨Nat.le_trans (len_div_le _ _) hn, Nat.le_trans (len_div_le _ _) hm⟩

end Go.Proofs.YtfnklkdbieikeaaGreatDoor

