/- The walk of NatOrders: whatever the lists, the law returns true and turns nothing that was there. -/
import Derived.Test.YtklbkgcjbekdfaaDoorLive
namespace Go.Proofs.YtklbkgcjbekdfaaDoor
open Go.RowKit

set_option maxHeartbeats 1000000 in
theorem walk_NatOrders (a0 : Option Addr) (len0 cap0 : Nat) (z0 : List Nat) (a1 : Option Addr) (len1 cap1 : Nat) (z1 : List Nat) (w : World) (h0 : Sl w a0 len0 cap0 z0) (h1 : Sl w a1 len1 cap1 z1) (hT : Tab w) :
    Calls Tryd.prog 4 #[.slice a0 len0 cap0, .slice a1 len1 cap1] w fun e w' => e = .returned (.bool true) ∧ Below w.heap.size w w' := by
  go_enter Tryd.func4, Tryd.ntmps4
  go_wp2_with fail
  refine (awake_any w hT).mono ?_
  rintro e w1 ⟨rfl, b⟩
  have L := Live.mk b
  clear hT b
  go_wp2_with fail
  refine (mill_any z0 100 _ _ _ w1 (h0.mono L.below) (by omega)).mono ?_
  rintro e w2 ⟨v1, ok1, x, rfl, ix, lx, b⟩
  replace L := (L.step b).cons ix
  clear b ix
  go_wp2_with fail
  refine (mill_any z1 100 _ _ _ w2 (h1.mono L.below) (by omega)).mono ?_
  rintro e w3 ⟨v2, ok2, y, rfl, iy, ly, b⟩
  replace L := (L.step b).cons iy
  clear b iy h0 h1
  have hcn := cmpI_neg (x : Int) y
  have hrg := cmpI_range (x : Int) y
  have HC := Lib.hid hcn; clear hcn
  have HE := Lib.hid (cmpI_eq (x : Int))
  have HS := Lib.hid (show 0 ≤ cmpI ((x + y : Nat) : Int) (x : Int) ∧ cmpI ((x + y : Nat) : Int) (x : Int) ≤ 1 from ⟨by unfold cmpI; rw [if_neg (by omega)]; split <;> omega, (cmpI_range _ _).2⟩)
  cases ok1 <;> cases ok2
  · go_wp2_with fail
    go_ret
    exact ⟨rfl, L.below⟩
  · go_wp2_with fail
    go_ret
    exact ⟨rfl, L.below⟩
  · go_wp2_with fail
    go_ret
    exact ⟨rfl, L.below⟩
  · go_wp2_with fail
    refine (cmpB_any x y _ _ w3 (L.get (by simp)) (L.get (by simp))).mono ?_
    rintro e w4 ⟨rfl, b⟩
    replace L := L.step b
    clear b
    go_wp2_with fail
    refine (rcmpB_any x y _ _ w4 (L.get (by simp)) (L.get (by simp))).mono ?_
    rintro e w5 ⟨rfl, b⟩
    replace L := L.step b
    clear b
    go_wp2_with fail
    refine (cmpB_any y x _ _ w5 (L.get (by simp)) (L.get (by simp))).mono ?_
    rintro e w6 ⟨rfl, b⟩
    replace L := L.step b
    clear b
    rw [HC.out]
    go_wp2_with fail
    refine (cmpB_any x y _ _ w6 (L.get (by simp)) (L.get (by simp))).mono ?_
    rintro e w7 ⟨rfl, b⟩
    replace L := L.step b
    clear b
    go_wp2_with fail
    refine (cmpB_any x x _ _ w7 (L.get (by simp)) (L.get (by simp))).mono ?_
    rintro e w8 ⟨rfl, b⟩
    replace L := L.step b
    clear b
    rw [HE.out]
    go_wp2_with fail
    refine (add_any x y _ _ w8 (L.get (by simp)) (L.get (by simp)) (by omega) (by omega)).mono ?_
    rintro e w9 ⟨v3, rfl, o⟩
    replace L := L.add o
    clear o
    go_wp2_with fail
    refine (cmpB_any (x + y) x _ _ w9 (L.get (by simp)) (L.get (by simp))).mono ?_
    rintro e w10 ⟨rfl, b⟩
    replace L := L.step b
    clear b
    have hs := HS.out.1
    generalize cmpI ((x + y : Nat) : Int) (x : Int) = cs at *
    go_wp2_with fail
    go_ret
    exact ⟨rfl, L.below⟩

end Go.Proofs.YtklbkgcjbekdfaaDoor
