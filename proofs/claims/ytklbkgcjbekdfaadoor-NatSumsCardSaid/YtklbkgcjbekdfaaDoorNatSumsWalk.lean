/- The walk of NatSums: whatever the input, the law returns true and turns nothing that was there. -/
import Derived.Test.YtklbkgcjbekdfaaDoorLive
namespace Go.Proofs.YtklbkgcjbekdfaaDoor
open Go.RowKit

set_option maxHeartbeats 1000000 in
theorem walk_NatSums (a0 : Option Addr) (len0 cap0 : Nat) (z0 : List Nat) (a1 : Option Addr) (len1 cap1 : Nat) (z1 : List Nat) (a2 : Option Addr) (len2 cap2 : Nat) (z2 : List Nat) (w : World) (h0 : Sl w a0 len0 cap0 z0) (h1 : Sl w a1 len1 cap1 z1) (h2 : Sl w a2 len2 cap2 z2) (hT : Tab w) :
    Calls Tryd.prog 5 #[.slice a0 len0 cap0, .slice a1 len1 cap1, .slice a2 len2 cap2] w fun e w' => e = .returned (.bool true) ∧ Below w.heap.size w w' := by
  go_enter Tryd.func5, Tryd.ntmps5
  go_wp2_with fail
  refine (awake_any w hT).mono ?_
  rintro e w1 ⟨rfl, b⟩
  have L := Live.mk b
  clear hT b
  go_wp2_with fail
  refine (mill_any z0 100 _ _ _ w1 (h0.mono L.below) (by omega)).mono ?_
  rintro e w2 ⟨vx, ok1, x, rfl, ix, lx, b⟩
  replace L := (L.step b).cons ix
  clear b ix
  go_wp2_with fail
  refine (mill_any z1 100 _ _ _ w2 (h1.mono L.below) (by omega)).mono ?_
  rintro e w3 ⟨vy, ok2, y, rfl, ix, ly, b⟩
  replace L := (L.step b).cons ix
  clear b ix
  go_wp2_with fail
  refine (mill_any z2 100 _ _ _ w3 (h2.mono L.below) (by omega)).mono ?_
  rintro e w4 ⟨vz, ok3, z, rfl, ix, lz, b⟩
  replace L := (L.step b).cons ix
  clear b ix
  clear h0 h1 h2
  by_cases hok : (ok1 && ok2 && ok3) = true
  · simp only [Bool.and_eq_true] at hok
    obtain ⟨⟨rfl, rfl⟩, rfl⟩ := hok
    have e1 := Lib.hid (Nat.add_assoc x y z)
    have hxy := len_add x y
    have hyz := len_add y z
    go_wp2_with fail
    refine (add_any x y _ _ w4 (L.get (by simp)) (L.get (by simp)) (by omega) (by omega)).mono ?_
    rintro e w5 ⟨vs, rfl, o⟩
    replace L := L.add o
    clear o
    go_wp2_with fail
    refine (sub_any x y _ _ w5 (L.get (by simp)) (L.get (by simp)) (by omega)).mono ?_
    rintro e w6 ⟨vd, rfl, o⟩
    replace L := L.add o
    clear o
    go_wp2_with fail
    refine (rsub_any x y _ _ w6 (L.get (by simp)) (L.get (by simp)) (by omega)).mono ?_
    rintro e w7 ⟨vw, rfl, o⟩
    replace L := L.add o
    clear o
    generalize (if y ≤ x then x - y else 0) = dd at *
    generalize decide (y ≤ x) = bb at *
    go_wp2_with fail
    refine (subYes_any (x + y) y _ _ w7 (L.get (by simp)) (L.get (by simp)) (by omega) (by omega)).mono ?_
    rintro e w8 ⟨vb, rfl, o⟩
    replace L := L.add o
    clear o
    rw [Nat.add_sub_cancel] at L
    go_wp2_with fail
    refine (radd_any x y _ _ w8 (L.get (by simp)) (L.get (by simp)) (by omega) (by omega)).mono ?_
    rintro e w9 ⟨vr, rfl, o⟩
    replace L := L.add o
    clear o
    go_wp2_with fail
    refine (same_yes (x + y) (x + y) _ _ w9 (L.get (by simp)) (L.get (by simp)) rfl).mono ?_
    rintro e w' ⟨rfl, rfl⟩
    skip
    go_wp2_with fail
    refine (same_yes dd dd _ _ w9 (L.get (by simp)) (L.get (by simp)) rfl).mono ?_
    rintro e w' ⟨rfl, rfl⟩
    skip
    go_wp2_with fail
    refine (same_yes x x _ _ w9 (L.get (by simp)) (L.get (by simp)) rfl).mono ?_
    rintro e w' ⟨rfl, rfl⟩
    skip
    go_wp2_with fail
    refine (add_any x y _ _ w9 (L.get (by simp)) (L.get (by simp)) (by omega) (by omega)).mono ?_
    rintro e w10 ⟨v5, rfl, o⟩
    replace L := L.add o
    clear o
    go_wp2_with fail
    refine (add_any (x + y) z _ _ w10 (L.get (by simp)) (L.get (by simp)) (by omega) (by omega)).mono ?_
    rintro e w11 ⟨v6, rfl, o⟩
    replace L := L.add o
    clear o
    go_wp2_with fail
    refine (add_any y z _ _ w11 (L.get (by simp)) (L.get (by simp)) (by omega) (by omega)).mono ?_
    rintro e w12 ⟨v7, rfl, o⟩
    replace L := L.add o
    clear o
    go_wp2_with fail
    refine (add_any x (y + z) _ _ w12 (L.get (by simp)) (L.get (by simp)) (by omega) (by omega)).mono ?_
    rintro e w13 ⟨v8, rfl, o⟩
    replace L := L.add o
    clear o
    go_wp2_with fail
    refine (same_yes (x + y + z) (x + (y + z)) _ _ w13 (L.get (by simp)) (L.get (by simp)) e1.out).mono ?_
    rintro e w' ⟨rfl, rfl⟩
    skip
    go_wp2_with fail
    go_ret
    exact ⟨rfl, L.below⟩
  · cases ok1 <;> cases ok2 <;> cases ok3 <;> first | (exact absurd rfl hok) | (go_wp2_with fail; go_ret; exact ⟨rfl, L.below⟩)

end Go.Proofs.YtklbkgcjbekdfaaDoor
