/- The sanity check of layer 3: the examples of chapter 3 hold; and what 'divided' says. -/
import Derived.Test.YtckomgehfpiijaaPowmod
namespace Go.Proofs.Ytckomgehfpiijaa
open Go.RowKit

set_option maxHeartbeats 1000000 in
theorem awake3_any (w : World) :
    Calls Try.prog 8 #[] w fun e w' => e = .returned (.bool true) ∧ Below w.heap.size w w' := by
  have l17 : len 17 ≤ 1 := len_le1 (by omega)
  have l5 : len 5 ≤ 1 := len_le1 (by omega)
  go_enter Try.func8, Try.ntmps8
  go_wp2_with fail
  refine (of_any 17 w (by omega)).mono ?_
  rintro e w1 ⟨v1, rfl, o1⟩
  have L := (Live.mk (Below.refl w.heap.size w)).add o1
  clear o1
  go_wp2_with fail
  refine (of_any 5 w1 (by omega)).mono ?_
  rintro e w2 ⟨v2, rfl, o2⟩
  replace L := L.add o2
  clear o2
  have HD := Lib.hid (divmod_any 17 5 v1 v2 w2 (L.get (by simp)) (L.get (by simp)) (by omega) (by omega) (by omega))
  go_wp2_with fail
  refine HD.out.mono ?_
  rintro e w3 ⟨vq, vr, rfl, oq, or, b3⟩
  replace L := ((L.step b3).cons (isN_of_own (x := 3) oq rfl)).cons (isN_of_own (x := 2) or rfl)
  clear oq or b3 HD
  go_wp2_with fail
  refine (of_any 17 w3 (by omega)).mono ?_
  rintro e w4 ⟨v4, rfl, o4⟩
  replace L := L.add o4
  clear o4
  have HD := Lib.hid (divmod_zero 17 v4 (.slice none 0 0) w4 (L.get (by simp)) (IsN.zero _) (by omega))
  go_wp2_with fail
  refine HD.out.mono ?_
  rintro e w5 ⟨rfl, b5⟩
  replace L := L.step b5
  clear b5 HD
  go_wp2_with fail
  have L6 := (L.step ((Below.refl w5.heap.size w5).alloc (Nat.le_refl _) (.cells #[.int .u32 3] 27))).cons (isN_litI w5 3 3 rfl (by omega) (by omega))
  refine (same_yes 3 3 _ _ _ (L6.get (by simp)) (L6.get (by simp)) rfl).mono ?_
  rintro e w' ⟨rfl, rfl⟩
  generalize w5.alloc (.cells #[.int .u32 3] 27) = w6 at *
  go_wp2_with fail
  have L7 := (L6.step ((Below.refl w6.heap.size w6).alloc (Nat.le_refl _) (.cells #[.int .u32 2] 27))).cons (isN_litI w6 2 2 rfl (by omega) (by omega))
  refine (same_yes 2 2 _ _ _ (L7.get (by simp)) (L7.get (by simp)) rfl).mono ?_
  rintro e w' ⟨rfl, rfl⟩
  generalize w6.alloc (.cells #[.int .u32 2] 27) = w7 at *
  have HV := divides_any 0 0 (.slice none 0 0) (.slice none 0 0) w7 (IsN.zero _) (IsN.zero _) (by rw [len_zero]; omega) (by rw [len_zero]; omega)
  rw [dvB_zero] at HV
  have HV1 := Lib.hid HV
  clear HV
  go_wp2_with fail
  refine HV1.out.mono ?_
  rintro e w8 ⟨rfl, b8⟩
  have L8 := L7.step b8
  clear L L6 L7
  go_wp2_with fail
  refine (of_any 5 w8 (by omega)).mono ?_
  rintro e w9 ⟨v9, rfl, o9⟩
  have L9 := L8.add o9
  have HV := divides_any 5 0 v9 (.slice none 0 0) w9 o9.isN (IsN.zero _) (by omega) (by rw [len_zero]; omega)
  rw [dvB_pos (by omega), exB_zero] at HV
  have HV2 := Lib.hid HV
  clear HV o9
  go_wp2_with fail
  refine HV2.out.mono ?_
  rintro e wa ⟨rfl, ba⟩
  have LA := L9.step ba
  clear L8 L9
  go_wp2_with fail
  go_ret
  exact ⟨rfl, LA.below⟩

set_option maxHeartbeats 1000000 in
theorem divided_any (x y : Nat) (va vb : Value) (w : World) (ha : IsN w va x) (hb : IsN w vb y) (hx : len x ≤ 1000000) (hy : len y ≤ 1000000) :
    Calls Try.prog 10 #[va, vb] w fun e w' => e = .returned (.bool true) ∧ Below w.heap.size w w' := by
  rcases Nat.eq_zero_or_pos y with rfl | hp
  · have HD := Lib.hid (divmod_zero x va vb w ha hb (by omega))
    obtain ⟨B, m, d, rfl, hb⟩ := hb
    have hl := hb.len
    rw [dig_zero] at hl
    obtain rfl : m = 0 := hl.symm
    clear hl hb ha
    go_enter Try.func10, Try.ntmps10
    go_wp2_with fail
    refine HD.out.mono ?_
    rintro e w1 ⟨rfl, b1⟩
    go_wp2_with fail
    go_ret
    exact ⟨rfl, b1⟩
  · have HD := Lib.hid (divmod_any x y va vb w ha hb (by omega) (by omega) hp)
    have hyl := len_pos hp
    have L := ((Live.mk (Below.refl w.heap.size w)).cons ha).cons hb
    obtain ⟨B, m, d, rfl, hb⟩ := hb
    have hm : len y = m := hb.len
    have hmz : ((m : Int) == 0) = false := by rw [beq_eq_false_iff_ne]; omega
    have hlt := cmpI_lt (show ((x % y : Nat) : Int) < (y : Int) from Int.ofNat_lt.2 (Nat.mod_lt _ hp))
    have HSUM := Lib.hid (show x / y * y + x % y = x by rw [Nat.mul_comm]; exact Nat.div_add_mod x y)
    have hlq := len_div x y
    have hlr := len_mod (x := x) hp
    have hlm := len_mul (x / y) y
    clear hb ha hm
    obtain ⟨q, hq⟩ : ∃ q, x / y = q := ⟨_, rfl⟩
    obtain ⟨r, hr⟩ : ∃ r, x % y = r := ⟨_, rfl⟩
    rw [hq, hr] at HD HSUM
    rw [hq] at hlq hlm
    rw [hr] at hlr hlt
    have HLT := Lib.hid hlt
    clear hq hr hlt
    go_enter Try.func10, Try.ntmps10
    go_wp2_with fail
    refine HD.out.mono ?_
    rintro e w1 ⟨vq, vr, rfl, oq, or, b1⟩
    replace L := ((L.step b1).cons (isN_of_own (x := q) oq rfl)).cons (isN_of_own (x := r) or rfl)
    clear oq or b1 HD
    go_wp2_with fail
    refine (validN_any q vq w1 (L.get (by simp))).mono ?_
    rintro e w' ⟨rfl, rfl⟩
    go_wp2_with fail
    refine (validN_any r vr w1 (L.get (by simp))).mono ?_
    rintro e w' ⟨rfl, rfl⟩
    have HC := rcmpB_any r y vr (.slice B m d) w1 (L.get (by simp)) (L.get (by simp))
    rw [HLT.out] at HC
    have HCC := Lib.hid HC
    clear HC
    go_wp2_with fail
    refine HCC.out.mono ?_
    rintro e w2 ⟨rfl, b2⟩
    replace L := L.step b2
    clear b2
    go_wp2_with fail
    refine (rmul_any q y vq (.slice B m d) w2 (L.get (by simp)) (L.get (by simp)) (by omega) (by omega)).mono ?_
    rintro e w3 ⟨v3, rfl, o3⟩
    replace L := L.add o3
    clear o3
    go_wp2_with fail
    refine (radd_any (q * y) r v3 vr w3 (L.get (by simp)) (L.get (by simp)) (by omega) (by omega)).mono ?_
    rintro e w4 ⟨v4, rfl, o4⟩
    replace L := L.add o4
    clear o4
    go_wp2_with fail
    refine (same_yes (q * y + r) x v4 va w4 (L.get (by simp)) (L.get (by simp)) HSUM.out).mono ?_
    rintro e w' ⟨rfl, rfl⟩
    go_wp2_with fail
    go_ret
    exact ⟨rfl, L.below⟩

end Go.Proofs.Ytckomgehfpiijaa
