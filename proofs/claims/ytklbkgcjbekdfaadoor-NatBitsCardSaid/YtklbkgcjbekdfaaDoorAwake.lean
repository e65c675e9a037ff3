/- The law's sanity check: the examples of chapter 1 hold. -/
import Derived.Test.YtklbkgcjbekdfaaDoorRefE
namespace Go.Proofs.YtklbkgcjbekdfaaDoor
open Go.RowKit

theorem isN_of_own {w : World} {base : Nat} {v : Value} {l : List Nat} {x : Nat} (h : Own w base v l) (e : l = dig x) : IsN w v x := by
  subst e
  obtain ⟨A, c, e, hs, _⟩ := h.form
  exact ⟨A, _, c, e, hs⟩
theorem dig_one {x : Nat} (h0 : 0 < x) (h : x < 4294967296) : dig x = [x] := by
  rw [dig_pos h0, Nat.mod_eq_of_lt (show x < W32 from h), Nat.div_eq_of_lt (show x < W32 from h), dig_zero]
theorem isN_lit (w : World) (x : Nat) (h0 : 0 < x) (h : x < 4294967296) : IsN (w.alloc (.cells #[.int .u32 (x : Int)] 44)) (.slice (some ⟨w.heap.size, 0, none⟩) 1 1) x :=
  isN_of_own (base := w.heap.size) (l := [x]) ⟨World.ownsRow_lit w #[.int .u32 (x : Int)] 1 (Nat.le_refl _) (by unfold maxLen; omega) rfl, small_one h⟩ (dig_one h0 h).symm
theorem isN_lit2 (w : World) (x y : Nat) (h0 : 0 < y) (hx : x < 4294967296) (hy : y < 4294967296) : IsN (w.alloc (.cells #[.int .u32 (x : Int), .int .u32 (y : Int)] 44)) (.slice (some ⟨w.heap.size, 0, none⟩) 2 2) (x + 4294967296 * y) := by
  refine isN_of_own (base := w.heap.size) (own_two w x y hx hy) ?_
  have h1 : 0 < x + 4294967296 * y := by omega
  rw [dig_pos h1, show (x + 4294967296 * y) % W32 = x from by unfold W32; omega, show (x + 4294967296 * y) / W32 = y from by unfold W32; omega, dig_one h0 hy]
theorem isN_litI (w : World) (i : Int) (x : Nat) (e : i = x) (h0 : 0 < x) (h : x < 4294967296) : IsN (w.alloc (.cells #[.int .u32 i] 44)) (.slice (some ⟨w.heap.size, 0, none⟩) 1 1) x := by
  subst e
  exact isN_lit w x h0 h
theorem isN_litI2 (w : World) (i j : Int) (x y : Nat) (e1 : i = x) (e2 : j = y) (h0 : 0 < y) (hx : x < 4294967296) (hy : y < 4294967296) : IsN (w.alloc (.cells #[.int .u32 i, .int .u32 j] 44)) (.slice (some ⟨w.heap.size, 0, none⟩) 2 2) (x + 4294967296 * y) := by
  subst e1; subst e2
  exact isN_lit2 w x y h0 hx hy
theorem sl_500 (w : World) : Sl (w.alloc (.cells #[.int .u32 5, .int .u32 0, .int .u32 0] 44)) (some ⟨w.heap.size, 0, none⟩) 3 3 [5, 0, 0] :=
  Own.sl (base := w.heap.size) ⟨World.ownsRow_lit w #[.int .u32 5, .int .u32 0, .int .u32 0] 3 (Nat.le_refl _) (by unfold maxLen; omega) rfl, small_cons (by unfold W32; omega) (small_cons W32_pos (small_one W32_pos))⟩
theorem trim_500 : trim [5, 0, 0] = dig 5 := by
  rw [dig_one (by omega) (by omega)]; rfl
theorem blen_8 : blen 8 = 4 := blen_of (n := 3) (by omega) (by omega)
theorem tz_8 : tz 8 = 3 := tz_mul 3 0
theorem len_le1 {x : Nat} (h : x < 4294967296) : len x ≤ 1 := len_le (by unfold W32; omega)
theorem len_le2 {x : Nat} (h : x < 18446744073709551616) : len x ≤ 2 := len_le (by unfold W32; omega)

set_option maxHeartbeats 400000 in
theorem awake_any (w : World) (hT : Tab w) :
    Calls Tryd.prog 9 #[] w fun e w' => e = .returned (.bool true) ∧ Below w.heap.size w w' := by
  have T := Lib.hid hT; clear hT
  go_enter Tryd.func9, Tryd.ntmps9
  go_wp2_with fail
  refine (trim_any [5, 0, 0] _ _ _ _ (sl_500 w) (by omega)).mono ?_
  rintro e w1 ⟨v1, rfl, o1⟩
  rw [trim_500] at o1
  have b1 := (((Below.refl w.heap.size w).alloc (Nat.le_refl _) _).trans (o1.below.mono (by simp)))
  have i1 := o1.isN
  clear o1
  go_wp2_with fail
  refine (same_any 5 5 _ _ _ (i1.mono ((Below.refl w1.heap.size w1).alloc (Nat.le_refl _) _)) (isN_litI w1 5 5 rfl (by omega) (by omega))).mono ?_
  rintro e w' ⟨rfl, rfl⟩
  rw [show sameB 5 5 = true from rfl]
  have b2 := b1.alloc b1.size (.cells #[.int .u32 5] 44)
  clear i1 b1
  generalize w1.alloc (.cells #[.int .u32 5] 44) = w2 at *
  go_wp2_with fail
  have j1 := (isN_litI w2 4294967295 4294967295 rfl (by omega) (by omega)).mono ((Below.refl (w2.alloc (.cells #[.int .u32 4294967295] 44)).heap.size _).alloc (Nat.le_refl _) (.cells #[.int .u32 1] 44))
  have j2 := isN_litI (w2.alloc (.cells #[.int .u32 4294967295] 44)) 1 1 rfl (by omega) (by omega)
  simp only [World.size_alloc] at j2
  have b3 := (b2.alloc b2.size (.cells #[.int .u32 4294967295] 44)).alloc (by have := b2.size; simp; omega) (.cells #[.int .u32 1] 44)
  refine (add_any 4294967295 1 _ _ _ j1 j2 (Nat.le_trans (len_le1 (by omega)) (by omega)) (Nat.le_trans (len_le1 (by omega)) (by omega))).mono ?_
  generalize (w2.alloc (.cells #[.int .u32 4294967295] 44)).alloc (.cells #[.int .u32 1] 44) = w3 at *
  rintro e w4 ⟨v4, rfl, o4⟩
  have b4 := b3.trans (o4.below.mono b3.size)
  have i4 := o4.isN
  clear o4 j1 j2 b2 b3
  go_wp2_with fail
  refine (same_any _ (0 + 4294967296 * 1) _ _ _ (i4.mono ((Below.refl w4.heap.size w4).alloc (Nat.le_refl _) _)) (isN_litI2 w4 0 1 0 1 rfl rfl (by omega) (by omega) (by omega))).mono ?_
  rintro e w' ⟨rfl, rfl⟩
  rw [show sameB (4294967295 + 1) (0 + 4294967296 * 1) = true from decide_eq_true (by omega)]
  have b5 := b4.alloc b4.size (.cells #[.int .u32 0, .int .u32 1] 44)
  clear i4 b4
  generalize w4.alloc (.cells #[.int .u32 0, .int .u32 1] 44) = w5 at *
  have l8 := Lib.hid (Nat.le_trans (len_le1 (x := 8) (by omega)) (show 1 ≤ 1099511627776 by omega))
  go_wp2_with fail
  refine (of_any 8 w5 (by omega)).mono ?_
  rintro e w6 ⟨v6, rfl, o6⟩
  have b6 := b5.trans (o6.below.mono b5.size)
  have i6 := o6.isN
  clear o6 b5
  go_wp2_with fail
  refine (nbits_any 8 v6 w6 i6 l8.out).mono ?_
  rintro e w' ⟨rfl, rfl⟩
  rw [blen_8]
  clear i6
  go_wp2_with fail
  refine (of_any 8 w6 (by omega)).mono ?_
  rintro e w7 ⟨v7, rfl, o7⟩
  have b7 := b6.trans (o7.below.mono b6.size)
  have i7 := o7.isN
  clear o7 b6
  go_wp2_with fail
  refine (nzeros_any 8 v7 w7 i7 l8.out (T.out.mono b7)).mono ?_
  rintro e w' ⟨rfl, rfl⟩
  rw [tz_8]
  clear i7
  go_wp2_with fail
  go_ret
  exact ⟨rfl, b7⟩

end Go.Proofs.YtklbkgcjbekdfaaDoor
