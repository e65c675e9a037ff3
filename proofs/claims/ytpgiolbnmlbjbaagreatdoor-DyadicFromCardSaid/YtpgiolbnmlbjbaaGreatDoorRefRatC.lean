/- The reference's Div, Of, Same, Size, Sqrt; the mill's Rat. -/
import Derived.Test.YtpgiolbnmlbjbaaGreatDoorRefRatB
import Derived.Test.YtpgiolbnmlbjbaaGreatDoorBaseR
import Derived.Deep.RegionHeld3
import Derived.Deep.DrawnRows
namespace Go.Proofs.YtpgiolbnmlbjbaaGreatDoor
open Go.RowKit
set_option linter.unusedVariables false
set_option linter.unusedSimpArgs false
set_option maxRecDepth 100000
attribute [local go_sem ↓] Go.wp_at_zero Go.wp_at_succ

set_option maxHeartbeats 1000000 in
theorem same7_yes (a : Int) (d : Nat) (vx vy : Value) (w : World) (hx : IsP w vx a d) (hy : IsP w vy a d) :
    Calls Tryz.prog 26 #[vx, vy] w (RetB w true) := by
  obtain ⟨A, c, B, g, rfl, hza, _, hna⟩ := hx.form
  obtain ⟨C, i, D, k, rfl, hzb, _, hnb⟩ := hy.form
  have L0 := ((((Lq.mk0 w).n hna).n hnb).z hza).z hzb
  clear hx hy hza hzb hna hnb
  go_enter Tryz.func26, Tryz.ntmps26
  go_wp2_with fail
  have L := ((L0.varQ (w.heap.size) (by simp) (ng a) A B (zl a) c (len d) g).varQ (w.heap.size + 1) (by simp) (ng a) C D (zl a) i (len d) k)
  have c00 := L.b0.c30
  have f00 := L.b0.fr 0
  have c01 := L.b0.c31
  have f01 := L.b0.fr 1
  have c02 := L.b0.c32
  have f02 := L.b0.fr 2
  have c10 := L.tl.b0.c30
  have c11 := L.tl.b0.c31
  have c12 := L.tl.b0.c32
  refine (zsame_yes a a _ _ _ (L.getZ (by simp)) (L.getZ (by simp)) rfl).mono ?_
  rintro e w1 ⟨rfl, be⟩
  clear c00 f00 c01 f01 c02 f02 c10 c11 c12
  replace L := L.step be
  clear be
  have c00 := L.b0.c30
  have f00 := L.b0.fr 0
  have c01 := L.b0.c31
  have f01 := L.b0.fr 1
  have c02 := L.b0.c32
  have f02 := L.b0.fr 2
  have c10 := L.tl.b0.c30
  have c11 := L.tl.b0.c31
  have c12 := L.tl.b0.c32
  go_wp2_with fail
  refine (same_yes d d _ _ _ (L.getN (by simp)) (L.getN (by simp)) rfl).mono ?_
  rintro e w' ⟨rfl, rfl⟩
  go_wp2_with fail
  go_ret
  exact ⟨rfl, L.below⟩

end Go.Proofs.YtpgiolbnmlbjbaaGreatDoor
