/- The walk of QuotientPowmod: whatever the input, the law returns true and turns nothing that was there. -/
import Derived.Test.YtckomgehfpiijaaAwake3
namespace Go.Proofs.Ytckomgehfpiijaa
open Go.RowKit

set_option maxHeartbeats 1000000 in
theorem walk_QuotientPowmod (a0 : Option Addr) (len0 cap0 : Nat) (z0 : List Nat) (a1 : Option Addr) (len1 cap1 : Nat) (z1 : List Nat) (a2 : Option Addr) (len2 cap2 : Nat) (z2 : List Nat) (w : World) (h0 : Sl w a0 len0 cap0 z0) (h1 : Sl w a1 len1 cap1 z1) (h2 : Sl w a2 len2 cap2 z2) :
    Calls Try.prog 7 #[.slice a0 len0 cap0, .slice a1 len1 cap1, .slice a2 len2 cap2] w fun e w' => e = .returned (.bool true) ∧ Below w.heap.size w w' := by
  go_enter Try.func7, Try.ntmps7
  go_wp2_with fail
  refine (awake3_any w).mono ?_
  rintro e w1 ⟨rfl, b⟩
  have L := Live.mk b
  clear b
  go_wp2_with fail
  refine (mill_any z0 8 _ _ _ w1 (h0.mono L.below) (by omega)).mono ?_
  rintro e w2 ⟨vx, ok1, x, rfl, ix, lx, b⟩
  replace L := (L.step b).cons ix
  clear b ix
  go_wp2_with fail
  refine (mill_any z1 3 _ _ _ w2 (h1.mono L.below) (by omega)).mono ?_
  rintro e w3 ⟨vk, ok2, k, rfl, ix, lk, b⟩
  replace L := (L.step b).cons ix
  clear b ix
  go_wp2_with fail
  refine (mill_any z2 6 _ _ _ w3 (h2.mono L.below) (by omega)).mono ?_
  rintro e w4 ⟨vm, ok3, m, rfl, ix, lm, b⟩
  replace L := (L.step b).cons ix
  clear b ix
  clear h0 h1 h2
  by_cases hok : (ok1 && ok2 && ok3) = true
  · simp only [Bool.and_eq_true] at hok
    obtain ⟨⟨rfl, rfl⟩, rfl⟩ := hok
    rcases Nat.eq_zero_or_pos m with rfl | hm
    · skip
      go_wp2_with fail
      refine (powmod_zero x k _ _ _ w4 (L.get (by simp))).mono ?_
      rintro e w5 ⟨v1, rfl, o⟩
      replace L := L.add o
      clear o
      go_wp2_with fail
      refine (rpowmod_zero x k _ _ _ w5 (L.get (by simp))).mono ?_
      rintro e w6 ⟨v2, rfl, o⟩
      replace L := L.add o
      clear o
      go_wp2_with fail
      refine (same_yes 0 0 v1 v2 w6 (L.get (by simp)) (L.get (by simp)) rfl).mono ?_
      rintro e w' ⟨rfl, rfl⟩
      skip
      go_wp2_with fail
      go_ret
      exact ⟨rfl, L.below⟩
    · skip
      go_wp2_with fail
      refine (powmod_pos x k m _ _ _ w4 (L.get (by simp)) (L.get (by simp)) (L.get (by simp)) (by omega) (by omega) (by omega) hm).mono ?_
      rintro e w5 ⟨v1, rfl, o⟩
      replace L := L.add o
      clear o
      go_wp2_with fail
      refine (rpowmod_pos x k m _ _ _ w5 (L.get (by simp)) (L.get (by simp)) (L.get (by simp)) (by omega) (by omega) (by omega) hm).mono ?_
      rintro e w6 ⟨v2, rfl, o⟩
      replace L := L.add o
      clear o
      go_wp2_with fail
      refine (same_yes (pmod x m k) (pmod x m k) v1 v2 w6 (L.get (by simp)) (L.get (by simp)) rfl).mono ?_
      rintro e w' ⟨rfl, rfl⟩
      skip
      go_wp2_with fail
      go_ret
      exact ⟨rfl, L.below⟩
  · cases ok1 <;> cases ok2 <;> cases ok3 <;> first | (exact absurd rfl hok) | (go_wp2_with fail; go_ret; exact ⟨rfl, L.below⟩)

end Go.Proofs.Ytckomgehfpiijaa
