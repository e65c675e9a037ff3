/- The walk of NatValues: whatever the input, the law returns true and turns nothing that was there. -/
import Derived.Test.YtklbkgcjbekdfaaDoorLive
namespace Go.Proofs.YtklbkgcjbekdfaaDoor
open Go.RowKit

set_option maxHeartbeats 1000000 in
theorem walk_NatValues (a0 : Option Addr) (len0 cap0 : Nat) (z0 : List Nat) (a1 : Int) (w : World) (h0 : Sl w a0 len0 cap0 z0) (hb : 0 ≤ a1 ∧ a1 ≤ 18446744073709551615) (hT : Tab w) :
    Calls Tryd.prog 3 #[.slice a0 len0 cap0, .int .u64 a1] w fun e w' => e = .returned (.bool true) ∧ Below w.heap.size w w' := by
  obtain ⟨n, rfl⟩ : ∃ n : Nat, a1 = (n : Int) := ⟨a1.toNat, by omega⟩
  have hn : n < 18446744073709551616 := by omega
  clear hb
  have hlen := h0.le63
  rcases Nat.lt_or_ge 200 len0 with hbig | hsmall
  · go_enter Tryd.func3, Tryd.ntmps3
    go_wp2_with fail
    refine (awake_any w hT).mono ?_
    rintro e w1 ⟨rfl, b⟩
    have L := Live.mk b
    clear hT b
    go_wp2_with fail
    go_ret
    exact ⟨rfl, L.below⟩
  · go_enter Tryd.func3, Tryd.ntmps3
    go_wp2_with fail
    refine (awake_any w hT).mono ?_
    rintro e w1 ⟨rfl, b⟩
    have L := Live.mk b
    clear hT b
    have hs := h0.mono L.below
    have lv : len (val z0) ≤ 200 := Nat.le_trans (len_val_le h0.small) (by rw [h0.len]; exact hsmall)
    have ed := dig_val h0.small
    go_wp2_with fail
    refine (trim_any z0 _ _ _ w1 hs (by omega)).mono ?_
    rintro e w2 ⟨vx, rfl, o⟩
    rw [← ed] at o
    replace L := L.add o
    clear o hs
    have hs := h0.mono L.below
    have ED := Lib.hid ed
    clear ed
    obtain ⟨x, hx⟩ : ∃ x, x = val z0 := ⟨_, rfl⟩
    rw [← hx] at L lv
    rw [← hx] at ED
    clear hx
    go_wp2_with fail
    refine (uintB_any x _ w2 (L.get (by simp))).mono ?_
    rintro e w3 ⟨rfl, b⟩
    replace L := L.step b
    clear b
    go_wp2_with fail
    refine (ruintB_any x _ w3 (L.get (by simp))).mono ?_
    rintro e w4 ⟨rfl, b⟩
    replace L := L.step b
    clear b
    go_wp2_with fail
    refine (of_any n w4 hn).mono ?_
    rintro e w5 ⟨vn, rfl, o⟩
    replace L := L.add o
    clear o
    go_wp2_with fail
    refine (uintN_any n _ w5 (L.get (by simp)) hn).mono ?_
    rintro e w6 ⟨rfl, b⟩
    replace L := L.step b
    clear b
    have hs1 := h0.mono L.below
    go_wp2_with fail
    refine (valid_any z0 _ _ _ w6 hs1).mono ?_
    rintro e w' ⟨rfl, rfl⟩
    skip
    go_wp2_with fail
    refine (rvalid_any z0 _ _ _ w6 hs1).mono ?_
    rintro e w' ⟨rfl, rfl⟩
    generalize isTrim z0 = it at *
    go_wp2_with fail
    refine (validN_any x _ w6 (L.get (by simp))).mono ?_
    rintro e w' ⟨rfl, rfl⟩
    skip
    go_wp2_with fail
    refine (rtrim_any z0 _ _ _ w6 hs1 (by omega)).mono ?_
    rintro e w7 ⟨vt, rfl, o⟩
    rw [← ED.out] at o
    replace L := L.add o
    clear o hs1
    go_wp2_with fail
    refine (same_yes x x _ _ w7 (L.get (by simp)) (L.get (by simp)) rfl).mono ?_
    rintro e w' ⟨rfl, rfl⟩
    skip
    go_wp2_with fail
    refine (of_any n w7 hn).mono ?_
    rintro e w8 ⟨vp, rfl, o⟩
    replace L := L.add o
    clear o
    go_wp2_with fail
    refine (rof_any n w8 hn).mono ?_
    rintro e w9 ⟨vq, rfl, o⟩
    replace L := L.add o
    clear o
    go_wp2_with fail
    refine (same_yes n n _ _ w9 (L.get (by simp)) (L.get (by simp)) rfl).mono ?_
    rintro e w' ⟨rfl, rfl⟩
    skip
    clear h0
    go_wp2_with fail
    go_ret
    exact ⟨rfl, L.below⟩

end Go.Proofs.YtklbkgcjbekdfaaDoor
