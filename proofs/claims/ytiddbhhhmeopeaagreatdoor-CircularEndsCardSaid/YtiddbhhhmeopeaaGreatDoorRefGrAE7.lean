/- The reference's Cut. -/
import Derived.Test.YtiddbhhhmeopeaaGreatDoorBaseME7
import Derived.Test.YtiddbhhhmeopeaaGreatDoorRefDivModE7
import Derived.Test.YtiddbhhhmeopeaaGreatDoorBaseEE7
import Derived.Test.YtiddbhhhmeopeaaGreatDoorBaseVE7
import Derived.Deep.RegionHeld3
import Derived.Deep.DrawnRows
import Derived.Deep.Cut
import Derived.Deep.CutRange
namespace Go.Proofs.YtiddbhhhmeopeaaGreatDoor
set_option maxHeartbeats 64000000
open Go.RowKit
set_option linter.unusedVariables false
set_option linter.unusedSimpArgs false
set_option maxRecDepth 100000
attribute [local go_sem ↓] Go.wp_at_zero Go.wp_at_succ

theorem zl_cut (a : Int) (d : Nat) (hd : 0 < d) (p : Int) : zl (cutQ (Rat.divInt a d) p) ≤ zl a + (p.toNat / 32 + 1):=by
 rw [cut_eq a d hd p]
 refine Nat.le_trans ?_ (zl_two a p.toNat)
 unfold zl
 exact len_mono (Int.natAbs_ediv_le_natAbs _ _)
theorem cut_up (a : Int) (d : Nat) (hd : 0 < d) (p : Nat) : cutQ (Rat.divInt a d) (p : Int) = a * 2 ^ p / (d : Int):=by
 rw [cut_eq a d hd, show ((p : Int)).toNat = p by omega, show (-(p : Int)).toNat = 0 by omega, Int.pow_zero, Int.mul_one]
theorem cut_down (a : Int) (d : Nat) (hd : 0 < d) (p : Nat) : cutQ (Rat.divInt a d) (-(p : Int)) = a / ((d : Int) * 2 ^ p):=by
 rw [cut_eq a d hd, show (-(p : Int)).toNat = 0 by omega, show (-(-(p : Int))).toNat = p by omega, Int.pow_zero, Int.mul_one]

end Go.Proofs.YtiddbhhhmeopeaaGreatDoor
