/- The walk of ProductLaws: whatever the input, the law returns true and turns nothing that was there. -/
import Derived.Test.YtmfoaljikhicdaaAwake2
import Derived.Test.YtmfoaljikhicdaaRefProd
namespace Go.Proofs.Ytmfoaljikhicdaa
open Go.RowKit

set_option maxHeartbeats 1000000 in
theorem walk_ProductLaws (a0 : Option Addr) (len0 cap0 : Nat) (z0 : List Nat) (a1 : Option Addr) (len1 cap1 : Nat) (z1 : List Nat) (a2 : Option Addr) (len2 cap2 : Nat) (z2 : List Nat) (w : World) (h0 : Sl w a0 len0 cap0 z0) (h1 : Sl w a1 len1 cap1 z1) (h2 : Sl w a2 len2 cap2 z2) :
    Calls Try.prog 5 #[.slice a0 len0 cap0, .slice a1 len1 cap1, .slice a2 len2 cap2] w fun e w' => e = .returned (.bool true) ∧ Below w.heap.size w w' := by
  go_enter Try.func5, Try.ntmps5
  go_wp2_with fail
  refine (awake2_any w).mono ?_
  rintro e w1 ⟨rfl, b⟩
  have L := Live.mk b
  clear b
  go_wp2_with fail
  refine (mill_any z0 40 _ _ _ w1 (h0.mono L.below) (by omega)).mono ?_
  rintro e w2 ⟨vx, ok0, x, rfl, ix, lx, b⟩
  replace L := (L.step b).cons ix
  clear b ix
  go_wp2_with fail
  refine (mill_any z1 40 _ _ _ w2 (h1.mono L.below) (by omega)).mono ?_
  rintro e w3 ⟨vy, ok1, y, rfl, ix, ly, b⟩
  replace L := (L.step b).cons ix
  clear b ix
  go_wp2_with fail
  refine (mill_any z2 40 _ _ _ w3 (h2.mono L.below) (by omega)).mono ?_
  rintro e w4 ⟨vz, ok2, z, rfl, ix, lz, b⟩
  replace L := (L.step b).cons ix
  clear b ix
  clear h0 h1 h2
  by_cases hok : (ok0 && ok1 && ok2) = true
  · simp only [Bool.and_eq_true] at hok
    obtain ⟨⟨rfl, rfl⟩, rfl⟩ := hok
    have lxy := len_mul x y
    have lyz := len_mul y z
    have lxz := len_mul x z
    have lay := len_add y z
    have E1 := Lib.hid (Nat.mul_assoc x y z)
    have E2 := Lib.hid (Nat.mul_add x y z)
    go_wp2_with fail
    refine (mul_any x y _ _ w4 (L.get (by simp)) (L.get (by simp)) (by omega) (by omega)).mono ?_
    rintro e w5 ⟨v1, rfl, o⟩
    replace L := L.add o
    clear o
    go_wp2_with fail
    refine (mul_any (x * y) z _ _ w5 (L.get (by simp)) (L.get (by simp)) (by omega) (by omega)).mono ?_
    rintro e w6 ⟨v2, rfl, o⟩
    replace L := L.add o
    clear o
    go_wp2_with fail
    refine (mul_any x y _ _ w6 (L.get (by simp)) (L.get (by simp)) (by omega) (by omega)).mono ?_
    rintro e w7 ⟨v3, rfl, o⟩
    replace L := L.add o
    clear o
    go_wp2_with fail
    refine (mul_any x z _ _ w7 (L.get (by simp)) (L.get (by simp)) (by omega) (by omega)).mono ?_
    rintro e w8 ⟨v4, rfl, o⟩
    replace L := L.add o
    clear o
    go_wp2_with fail
    refine (add_any (x * y) (x * z) _ _ w8 (L.get (by simp)) (L.get (by simp)) (by omega) (by omega)).mono ?_
    rintro e w9 ⟨v5, rfl, o⟩
    replace L := L.add o
    clear o
    go_wp2_with fail
    refine (mul_any y z _ _ w9 (L.get (by simp)) (L.get (by simp)) (by omega) (by omega)).mono ?_
    rintro e w10 ⟨v6, rfl, o⟩
    replace L := L.add o
    clear o
    go_wp2_with fail
    refine (mul_any x (y * z) _ _ w10 (L.get (by simp)) (L.get (by simp)) (by omega) (by omega)).mono ?_
    rintro e w11 ⟨v7, rfl, o⟩
    replace L := L.add o
    clear o
    go_wp2_with fail
    refine (same_yes (x * y * z) (x * (y * z)) _ _ w11 (L.get (by simp)) (L.get (by simp)) E1.out).mono ?_
    rintro e w' ⟨rfl, rfl⟩
    skip
    go_wp2_with fail
    refine (add_any y z _ _ w11 (L.get (by simp)) (L.get (by simp)) (by omega) (by omega)).mono ?_
    rintro e w12 ⟨v8, rfl, o⟩
    replace L := L.add o
    clear o
    go_wp2_with fail
    refine (mul_any x (y + z) _ _ w12 (L.get (by simp)) (L.get (by simp)) (by omega) (by omega)).mono ?_
    rintro e w13 ⟨v9, rfl, o⟩
    replace L := L.add o
    clear o
    go_wp2_with fail
    refine (same_yes (x * (y + z)) (x * y + x * z) _ _ w13 (L.get (by simp)) (L.get (by simp)) E2.out).mono ?_
    rintro e w' ⟨rfl, rfl⟩
    skip
    go_wp2_with fail
    refine (mul_any x y _ _ w13 (L.get (by simp)) (L.get (by simp)) (by omega) (by omega)).mono ?_
    rintro e w14 ⟨va, rfl, o⟩
    replace L := L.add o
    clear o
    go_wp2_with fail
    refine (mul_any x z _ _ w14 (L.get (by simp)) (L.get (by simp)) (by omega) (by omega)).mono ?_
    rintro e w15 ⟨vb, rfl, o⟩
    replace L := L.add o
    clear o
    obtain ⟨Va, na, ca, rfl, _⟩ := show IsN w15 va (x * y) from L.get (by simp)
    obtain ⟨Vb, nb, cb, rfl, _⟩ := show IsN w15 vb (x * z) from L.get (by simp)
    have hN := nats_two w15 (.slice Va na ca) (.slice Vb nb cb) (x * y) (x * z) (L.get (by simp)) (L.get (by simp)) ⟨_, _, _, rfl⟩ ⟨_, _, _, rfl⟩
    have HS := Lib.hid (sum_any (two (x * y) (x * z)) _ 2 2 _ hN (by omega) (fun j hj => by
      rcases (show j = 0 ∨ j = 1 by omega) with rfl | rfl
      · exact Nat.le_trans lxy (by omega)
      · exact Nat.le_trans lxz (by omega)))
    rw [sumTo_two] at HS
    clear hN
    replace L := L.step ((Below.refl w15.heap.size w15).alloc (Nat.le_refl _) (.cells #[.slice Va na ca, .slice Vb nb cb] 22))
    go_wp2_with fail
    refine (HS.out).mono ?_
    rintro e w16 ⟨vs, rfl, o⟩
    replace L := L.add o
    clear o
    go_wp2_with fail
    refine (same_yes (x * y + x * z) (x * y + x * z) _ _ w16 (L.get (by simp)) (L.get (by simp)) rfl).mono ?_
    rintro e w' ⟨rfl, rfl⟩
    skip
    go_wp2_with fail
    go_ret
    exact ⟨rfl, L.below⟩
  · cases ok0 <;> cases ok1 <;> cases ok2 <;> first | (exact absurd rfl hok) | (go_wp2_with fail; go_ret; exact ⟨rfl, L.below⟩)

end Go.Proofs.Ytmfoaljikhicdaa
