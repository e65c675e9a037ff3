/- The walk of QuotientExact: whatever the input, the law returns true and turns nothing that was there. -/
import Derived.Test.YtckomgehfpiijaaAwake3
namespace Go.Proofs.Ytckomgehfpiijaa
open Go.RowKit

set_option maxHeartbeats 2000000 in
theorem walk_QuotientExact (a0 : Option Addr) (len0 cap0 : Nat) (z0 : List Nat) (a1 : Option Addr) (len1 cap1 : Nat) (z1 : List Nat) (w : World) (h0 : Sl w a0 len0 cap0 z0) (h1 : Sl w a1 len1 cap1 z1) :
    Calls Try.prog 6 #[.slice a0 len0 cap0, .slice a1 len1 cap1] w fun e w' => e = .returned (.bool true) ∧ Below w.heap.size w w' := by
  go_enter Try.func6, Try.ntmps6
  go_wp2_with fail
  refine (awake3_any w).mono ?_
  rintro e w1 ⟨rfl, b⟩
  have L := Live.mk b
  clear b
  go_wp2_with fail
  refine (mill_any z0 40 _ _ _ w1 (h0.mono L.below) (by omega)).mono ?_
  rintro e w2 ⟨vx, ok1, x, rfl, ix, lx, b⟩
  replace L := (L.step b).cons ix
  clear b ix
  go_wp2_with fail
  refine (mill_any z1 40 _ _ _ w2 (h1.mono L.below) (by omega)).mono ?_
  rintro e w3 ⟨vy, ok2, y, rfl, ix, ly, b⟩
  replace L := (L.step b).cons ix
  clear b ix
  clear h0 h1
  by_cases hok : (ok1 && ok2) = true
  · simp only [Bool.and_eq_true] at hok
    obtain ⟨rfl, rfl⟩ := hok
    have lxy := len_mul x y
    have hlq : len (exQ x y) ≤ 40 := by
      unfold exQ
      split
      · exact Nat.le_trans (len_div x y) lx
      · rw [len_zero]; omega
    obtain ⟨B, m, d, rfl, hs⟩ := show IsN w3 vy y from L.get (by simp)
    have hm : len y = m := hs.len
    clear hs
    go_wp2_with fail
    refine (exact_any x y _ (.slice B m d) w3 (L.get (by simp)) (L.get (by simp)) (by omega) (by omega)).mono ?_
    rintro e w4 ⟨v1, rfl, o⟩
    replace L := L.add o
    clear o
    go_wp2_with fail
    refine (rexact_any x y _ (.slice B m d) w4 (L.get (by simp)) (L.get (by simp)) (by omega) (by omega)).mono ?_
    rintro e w5 ⟨v2, rfl, o⟩
    replace L := L.add o
    clear o
    go_wp2_with fail
    refine (mul_any x y _ (.slice B m d) w5 (L.get (by simp)) (L.get (by simp)) (by omega) (by omega)).mono ?_
    rintro e w6 ⟨v3, rfl, o⟩
    replace L := L.add o
    clear o
    have HEX := Lib.hid (exact_any (x * y) y v3 (.slice B m d) w6 (L.get (by simp)) (L.get (by simp)) (by omega) (by omega))
    rcases Nat.eq_zero_or_pos y with rfl | hy
    · rw [len_zero] at hm
      subst hm
      have DVT := Lib.hid (show dvB 0 (x * 0) = true by rw [Nat.mul_zero]; exact dvB_zero 0)
      rw [exB_zero] at HEX
      go_wp2_with fail
      refine (HEX.out).mono ?_
      rintro e w7 ⟨v4, rfl, o⟩
      replace L := L.add o
      clear o
      clear HEX
      go_wp2_with fail
      refine (same_yes (exQ x 0) (exQ x 0) v1 v2 w7 (L.get (by simp)) (L.get (by simp)) rfl).mono ?_
      rintro e w' ⟨rfl, rfl⟩
      skip
      go_wp2_with fail
      refine (divides_any x 0 _ (.slice B 0 d) w7 (L.get (by simp)) (L.get (by simp)) (by omega) (by omega)).mono ?_
      rintro e w8 ⟨rfl, b⟩
      replace L := L.step b
      clear b
      go_wp2_with fail
      refine (rdivides_any x 0 _ (.slice B 0 d) w8 (L.get (by simp)) (L.get (by simp)) (by omega) (by omega)).mono ?_
      rintro e w9 ⟨rfl, b⟩
      replace L := L.step b
      clear b
      go_wp2_with fail
      refine (mul_any x 0 _ (.slice B 0 d) w9 (L.get (by simp)) (L.get (by simp)) (by omega) (by omega)).mono ?_
      rintro e w10 ⟨v5, rfl, o⟩
      replace L := L.add o
      clear o
      have HV := divides_any (x * 0) 0 v5 (.slice B 0 d) w10 (L.get (by simp)) (L.get (by simp)) (by omega) (by omega)
      rw [DVT.out] at HV
      have HV2 := Lib.hid HV
      clear HV
      go_wp2_with fail
      refine (HV2.out).mono ?_
      rintro e w11 ⟨rfl, b⟩
      replace L := L.step b
      clear b
      go_wp2_with fail
      go_ret
      exact ⟨rfl, L.below⟩
    · have hyl := len_pos hy
      have hmp : 0 < m := by omega
      have hmod : x * y % y = 0 := Nat.mul_mod_left x y
      have DVT := Lib.hid (show dvB y (x * y) = true from decide_eq_true (.inr ⟨hy, hmod⟩))
      rw [exB_yes hy hmod, exQ_yes hy hmod, Nat.mul_div_cancel _ hy] at HEX
      clear hmod
      go_wp2_with fail
      refine (HEX.out).mono ?_
      rintro e w7 ⟨v4, rfl, o⟩
      replace L := L.add o
      clear o
      clear HEX
      go_wp2_with fail
      refine (same_yes x x v4 _ w7 (L.get (by simp)) (L.get (by simp)) rfl).mono ?_
      rintro e w' ⟨rfl, rfl⟩
      skip
      go_wp2_with fail
      refine (same_yes (exQ x y) (exQ x y) v1 v2 w7 (L.get (by simp)) (L.get (by simp)) rfl).mono ?_
      rintro e w' ⟨rfl, rfl⟩
      skip
      go_wp2_with fail
      refine (divides_any x y _ (.slice B m d) w7 (L.get (by simp)) (L.get (by simp)) (by omega) (by omega)).mono ?_
      rintro e w8 ⟨rfl, b⟩
      replace L := L.step b
      clear b
      go_wp2_with fail
      refine (rdivides_any x y _ (.slice B m d) w8 (L.get (by simp)) (L.get (by simp)) (by omega) (by omega)).mono ?_
      rintro e w9 ⟨rfl, b⟩
      replace L := L.step b
      clear b
      go_wp2_with fail
      refine (mul_any x y _ (.slice B m d) w9 (L.get (by simp)) (L.get (by simp)) (by omega) (by omega)).mono ?_
      rintro e w10 ⟨v5, rfl, o⟩
      replace L := L.add o
      clear o
      have HV := divides_any (x * y) y v5 (.slice B m d) w10 (L.get (by simp)) (L.get (by simp)) (by omega) (by omega)
      rw [DVT.out] at HV
      have HV2 := Lib.hid HV
      clear HV
      go_wp2_with fail
      refine (HV2.out).mono ?_
      rintro e w11 ⟨rfl, b⟩
      replace L := L.step b
      clear b
      go_wp2_with fail
      go_ret
      exact ⟨rfl, L.below⟩
  · cases ok1 <;> cases ok2 <;> first | (exact absurd rfl hok) | (go_wp2_with fail; go_ret; exact ⟨rfl, L.below⟩)

end Go.Proofs.Ytckomgehfpiijaa
