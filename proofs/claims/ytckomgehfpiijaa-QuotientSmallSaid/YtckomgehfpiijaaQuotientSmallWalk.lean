/- The walk of QuotientSmall: whatever the input, the law returns true and turns nothing that was there. -/
import Derived.Test.YtckomgehfpiijaaAwake3
namespace Go.Proofs.Ytckomgehfpiijaa
open Go.RowKit

set_option maxHeartbeats 1000000 in
theorem walk_QuotientSmall (a0 : Option Addr) (len0 cap0 : Nat) (z0 : List Nat) (a1 : Int) (w : World) (h0 : Sl w a0 len0 cap0 z0) (hb1 : 0 ≤ a1 ∧ a1 ≤ 4294967295) :
    Calls Try.prog 5 #[.slice a0 len0 cap0, .int .u32 a1] w fun e w' => e = .returned (.bool true) ∧ Below w.heap.size w w' := by
  obtain ⟨d, rfl⟩ : ∃ d : Nat, a1 = (d : Int) := ⟨a1.toNat, by omega⟩
  have hd32 : d < 4294967296 := by omega
  clear hb1
  go_enter Try.func5, Try.ntmps5
  go_wp2_with fail
  refine (awake3_any w).mono ?_
  rintro e w1 ⟨rfl, b⟩
  have L := Live.mk b
  clear b
  go_wp2_with fail
  refine (mill_any z0 90 _ _ _ w1 (h0.mono L.below) (by omega)).mono ?_
  rintro e w2 ⟨vx, ok, x, rfl, ix, lx, b⟩
  replace L := (L.step b).cons ix
  clear b ix
  clear h0
  cases ok
  · go_wp2_with fail
    go_ret
    exact ⟨rfl, L.below⟩
  · rcases Nat.eq_zero_or_pos d with rfl | hd
    · skip
      go_wp2_with fail
      refine (qsmall_zero x _ w2 (L.get (by simp))).mono ?_
      rintro e w' ⟨rfl, rfl⟩
      skip
      go_wp2_with fail
      go_ret
      exact ⟨rfl, L.below⟩
    · have hdz : ((d : Int) == 0) = false := by rw [beq_eq_false_iff_ne]; omega
      have hr := Nat.mod_lt x hd
      have HE := Lib.hid (show x / d * d + x % d = x by rw [Nat.mul_comm]; exact Nat.div_add_mod x d)
      have hlq := len_div x d
      have HQ := Lib.hid (qsmall_any x d _ w2 (L.get (v := vx) (by simp)) (by omega) hd hd32)
      obtain ⟨q, hq⟩ : ∃ q, x / d = q := ⟨_, rfl⟩
      obtain ⟨r, hr2⟩ : ∃ r, x % d = r := ⟨_, rfl⟩
      rw [hq, hr2] at HQ HE
      rw [hq] at hlq
      rw [hr2] at hr
      clear hq hr2
      go_wp2_with fail
      refine (HQ.out).mono ?_
      rintro e w3 ⟨vq, rfl, o⟩
      replace L := L.add o
      clear o
      clear HQ
      go_wp2_with fail
      refine (validN_any q vq w3 (L.get (by simp))).mono ?_
      rintro e w' ⟨rfl, rfl⟩
      skip
      go_wp2_with fail
      refine (rsmall_any q d r vq w3 (L.get (by simp)) (by omega) hd32 (by omega)).mono ?_
      rintro e w4 ⟨vs, rfl, o⟩
      replace L := L.add o
      clear o
      go_wp2_with fail
      refine (same_yes (q * d + r) x _ _ w4 (L.get (by simp)) (L.get (by simp)) HE.out).mono ?_
      rintro e w' ⟨rfl, rfl⟩
      skip
      go_wp2_with fail
      go_ret
      exact ⟨rfl, L.below⟩

end Go.Proofs.Ytckomgehfpiijaa
