/- Base texts, joined: RefRatA, RefRatB, RefRatC, MillRat. -/
import Derived.Test.YtiddbhhhmeopeaaGreatDoorBaseDE7
import Derived.Test.YtiddbhhhmeopeaaGreatDoorBaseSE7
import Derived.Test.YtiddbhhhmeopeaaGreatDoorBaseJE7
import Derived.Deep.RegionHeld3
import Derived.Deep.DrawnRows
import Derived.Test.YtiddbhhhmeopeaaGreatDoorBaseRE7
import Derived.Deep.Cut
import Derived.Deep.CutRange
/- The reference's Lowest, Make, of, den, Of, Sign. -/
namespace Go.Proofs.YtiddbhhhmeopeaaGreatDoor
set_option maxHeartbeats 64000000
open Go.RowKit
set_option linter.unusedVariables false
set_option linter.unusedSimpArgs false
set_option maxRecDepth 100000
attribute [local go_sem ↓] Go.wp_at_zero Go.wp_at_succ

theorem len_div_le (x g : Nat) : len (x / g) ≤ len x:=len_mono (Nat.div_le_self _ _)
end Go.Proofs.YtiddbhhhmeopeaaGreatDoor


/- The reference's den, Sign, Neg, Add, Mul, Sub, Cmp, Div. -/
namespace Go.Proofs.YtiddbhhhmeopeaaGreatDoor
set_option maxHeartbeats 64000000
open Go.RowKit
set_option linter.unusedVariables false
set_option linter.unusedSimpArgs false
set_option maxRecDepth 100000
attribute [local go_sem ↓] Go.wp_at_zero Go.wp_at_succ

end Go.Proofs.YtiddbhhhmeopeaaGreatDoor


/- The reference's Div, Of, Same, Size, Sqrt; the mill's Rat. -/
namespace Go.Proofs.YtiddbhhhmeopeaaGreatDoor
set_option maxHeartbeats 64000000
open Go.RowKit
set_option linter.unusedVariables false
set_option linter.unusedSimpArgs false
set_option maxRecDepth 100000
attribute [local go_sem ↓] Go.wp_at_zero Go.wp_at_succ

end Go.Proofs.YtiddbhhhmeopeaaGreatDoor


/- The mill's Rat. -/
namespace Go.Proofs.YtiddbhhhmeopeaaGreatDoor
set_option maxHeartbeats 64000000
open Go.RowKit
set_option linter.unusedVariables false
set_option linter.unusedSimpArgs false
set_option maxRecDepth 100000
attribute [local go_sem ↓] Go.wp_at_zero Go.wp_at_succ

theorem divInt_small (n : Int) (m : Nat) (k : Nat) (hn : zl n ≤ k) (hm : len m ≤ k) (h0 : 0 < m) : zl (Rat.divInt n (m : Int)).num ≤ k ∧ len (Rat.divInt n (m : Int)).den ≤ k:=by
 obtain ⟨e1, e2⟩:=divInt_pair n (m : Int) (by omega)
 rw [e1, e2, zl_sg, Int.natAbs_natCast]
 exact ⟨Nat.le_trans (len_div_le _ _) hn, Nat.le_trans (len_div_le _ _) hm⟩

end Go.Proofs.YtiddbhhhmeopeaaGreatDoor

