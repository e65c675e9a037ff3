/- The sanity check of layer 2: the examples of chapter 2 hold. -/
import Derived.Test.YtmfoaljikhicdaaProdB
import Derived.Test.YtmfoaljikhicdaaProdC
import Derived.Test.YtmfoaljikhicdaaLiveA
namespace Go.Proofs.Ytmfoaljikhicdaa
open Go.RowKit

/-- A natural of no digits. -/
theorem out_zero {w w' : World} {v : Value} (o : Out w w' v (dig 0)) : ∃ A c, v = .slice A 0 c := by
  obtain ⟨A, c, e, _⟩ := o.own.form
  rw [dig_zero] at e
  exact ⟨A, c, e⟩

set_option maxHeartbeats 400000 in
theorem awake2_any (w : World) :
    Calls Try.prog 9 #[] w fun e w' => e = .returned (.bool true) ∧ Below w.heap.size w w' := by
  go_enter Try.func9, Try.ntmps9
  go_wp2_with fail
  have i1 := isN_litI w 4294967295 4294967295 rfl (by omega) (by omega)
  have b1 := (Below.refl w.heap.size w).alloc (Nat.le_refl _) (.cells #[.int .u32 4294967295] 29)
  refine (mul_any 4294967295 4294967295 _ _ _ i1 i1 (Nat.le_trans (len_le1 (by omega)) (by omega)) (Nat.le_trans (len_le1 (by omega)) (by omega))).mono ?_
  generalize w.alloc (.cells #[.int .u32 4294967295] 29) = w1 at *
  rintro e w2 ⟨v2, rfl, o2⟩
  have b2 := b1.trans (o2.below.mono b1.size)
  have i2 := o2.isN
  clear o2 b1 i1
  go_wp2_with fail
  refine (same_any _ (1 + 4294967296 * 4294967294) _ _ _ (i2.mono ((Below.refl w2.heap.size w2).alloc (Nat.le_refl _) _)) (isN_litI2 w2 1 4294967294 1 4294967294 rfl rfl (by omega) (by omega) (by omega))).mono ?_
  rintro e w' ⟨rfl, rfl⟩
  rw [show sameB (4294967295 * 4294967295) (1 + 4294967296 * 4294967294) = true from decide_eq_true (by omega)]
  have b3 := b2.alloc b2.size (.cells #[.int .u32 1, .int .u32 4294967294] 29)
  clear i2 b2
  generalize w2.alloc (.cells #[.int .u32 1, .int .u32 4294967294] 29) = w3 at *
  have HP := Lib.hid (power_any 0 0 _ w3 (IsN.zero w3) (by rw [len_zero]; omega) (by omega))
  go_wp2_with fail
  refine HP.out.mono ?_
  rintro e w4 ⟨v4, rfl, o4⟩
  have b4 := b3.trans (o4.below.mono b3.size)
  have i4 := o4.isN
  clear o4 b3
  go_wp2_with fail
  refine (same_any _ 1 _ _ _ (i4.mono ((Below.refl w4.heap.size w4).alloc (Nat.le_refl _) _)) (isN_litI w4 1 1 rfl (by omega) (by omega))).mono ?_
  rintro e w' ⟨rfl, rfl⟩
  rw [show sameB (0 ^ 0) 1 = true from decide_eq_true (by rfl)]
  have b5 := b4.alloc b4.size (.cells #[.int .u32 1] 29)
  clear i4 b4
  generalize w4.alloc (.cells #[.int .u32 1] 29) = w5 at *
  have HSU := Lib.hid (sum_any (fun _ => 0) none 0 0 w5 ⟨fun j hj => absurd hj (Nat.not_lt_zero j)⟩ (by omega) (fun j hj => absurd hj (Nat.not_lt_zero j)))
  go_wp2_with fail
  refine HSU.out.mono ?_
  rintro e w6 ⟨v6, rfl, o6⟩
  have b6 := b5.trans (o6.below.mono b5.size)
  obtain ⟨C, cc, rfl⟩ := out_zero o6
  clear o6
  go_wp2_with fail
  go_ret
  exact ⟨rfl, b6⟩

end Go.Proofs.Ytmfoaljikhicdaa
