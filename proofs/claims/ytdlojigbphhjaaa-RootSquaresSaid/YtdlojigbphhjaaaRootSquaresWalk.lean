/- The walk of RootSquares: whatever the input, the law returns true and turns nothing that was there. -/
import Derived.Test.YtdlojigbphhjaaaAwake4
namespace Go.Proofs.Ytdlojigbphhjaaa
open Go.RowKit

set_option maxHeartbeats 2000000 in
theorem walk_RootSquares (a0 : Option Addr) (len0 cap0 : Nat) (z0 : List Nat) (w : World) (h0 : Sl w a0 len0 cap0 z0) :
    Calls Try.prog 4 #[.slice a0 len0 cap0] w fun e w' => e = .returned (.bool true) ∧ Below w.heap.size w w' := by
  go_enter Try.func4, Try.ntmps4
  go_wp2_with fail
  refine (awake4_any w).mono ?_
  rintro e w1 ⟨rfl, b⟩
  have L := Live.mk b
  clear b
  go_wp2_with fail
  refine (mill_any z0 20 _ _ _ w1 (h0.mono L.below) (by omega)).mono ?_
  rintro e w2 ⟨vx, ok, x, rfl, ix, lx, b⟩
  replace L := (L.step b).cons ix
  clear b ix
  clear h0
  cases ok
  · go_wp2_with fail
    go_ret
    exact ⟨rfl, L.below⟩
  · have hlx := len_mul x x
    go_wp2_with fail
    refine (rmul_any x x vx vx w2 (L.get (by simp)) (L.get (by simp)) (by omega) (by omega)).mono ?_
    rintro e w3 ⟨v1, rfl, o⟩
    replace L := L.add o
    clear o
    have HQ := squareRoot_any (x * x) v1 w3 (L.get (by simp)) (by omega)
    rw [show sqQ (x * x) = x from by unfold sqQ; rw [rt_sq, if_pos rfl], show sqB (x * x) = true from by unfold sqB; rw [rt_sq]; exact decide_eq_true rfl] at HQ
    have HQ2 := Lib.hid HQ
    clear HQ
    go_wp2_with fail
    refine (HQ2.out).mono ?_
    rintro e w4 ⟨v2, rfl, o⟩
    replace L := L.add o
    clear o HQ2
    go_wp2_with fail
    refine (rsquareRoot_any x vx w4 (L.get (by simp)) (by omega)).mono ?_
    rintro e w5 ⟨v3, rfl, o⟩
    replace L := L.add o
    clear o
    go_wp2_with fail
    refine (squareRoot_any x vx w5 (L.get (by simp)) (by omega)).mono ?_
    rintro e w6 ⟨v4, rfl, o⟩
    replace L := L.add o
    clear o
    generalize sqB x = sb at *
    go_wp2_with fail
    refine (same_yes x x v2 vx w6 (L.get (by simp)) (L.get (by simp)) rfl).mono ?_
    rintro e w' ⟨rfl, rfl⟩
    skip
    go_wp2_with fail
    refine (same_yes (sqQ x) (sqQ x) v4 v3 w6 (L.get (by simp)) (L.get (by simp)) rfl).mono ?_
    rintro e w' ⟨rfl, rfl⟩
    skip
    go_wp2_with fail
    go_ret
    exact ⟨rfl, L.below⟩

end Go.Proofs.Ytdlojigbphhjaaa
