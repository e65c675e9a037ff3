/- The walk of QuotientDivides: whatever the input, the law returns true and turns nothing that was there. -/
import Derived.Test.YtckomgehfpiijaaAwake3
namespace Go.Proofs.Ytckomgehfpiijaa
open Go.RowKit

set_option maxHeartbeats 1000000 in
theorem walk_QuotientDivides (a0 : Option Addr) (len0 cap0 : Nat) (z0 : List Nat) (a1 : Option Addr) (len1 cap1 : Nat) (z1 : List Nat) (w : World) (h0 : Sl w a0 len0 cap0 z0) (h1 : Sl w a1 len1 cap1 z1) :
    Calls Try.prog 3 #[.slice a0 len0 cap0, .slice a1 len1 cap1] w fun e w' => e = .returned (.bool true) ∧ Below w.heap.size w w' := by
  go_enter Try.func3, Try.ntmps3
  go_wp2_with fail
  refine (awake3_any w).mono ?_
  rintro e w1 ⟨rfl, b⟩
  have L := Live.mk b
  clear b
  go_wp2_with fail
  refine (mill_any z0 90 _ _ _ w1 (h0.mono L.below) (by omega)).mono ?_
  rintro e w2 ⟨vx, ok1, x, rfl, ix, lx, b⟩
  replace L := (L.step b).cons ix
  clear b ix
  go_wp2_with fail
  refine (mill_any z1 60 _ _ _ w2 (h1.mono L.below) (by omega)).mono ?_
  rintro e w3 ⟨vy, ok2, y, rfl, ix, ly, b⟩
  replace L := (L.step b).cons ix
  clear b ix
  clear h0 h1
  by_cases hok : (ok1 && ok2) = true
  · simp only [Bool.and_eq_true] at hok
    obtain ⟨rfl, rfl⟩ := hok
    go_wp2_with fail
    refine (divided_any x y _ _ w3 (L.get (by simp)) (L.get (by simp)) (by omega) (by omega)).mono ?_
    rintro e w4 ⟨rfl, b⟩
    replace L := L.step b
    clear b
    go_wp2_with fail
    go_ret
    exact ⟨rfl, L.below⟩
  · cases ok1 <;> cases ok2 <;> first | (exact absurd rfl hok) | (go_wp2_with fail; go_ret; exact ⟨rfl, L.below⟩)

end Go.Proofs.Ytckomgehfpiijaa
