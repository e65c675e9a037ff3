/- The walk of NatShifts: whatever the input, the law returns true and turns nothing that was there. -/
import Derived.Test.YtklbkgcjbekdfaaDoorLive
namespace Go.Proofs.YtklbkgcjbekdfaaDoor
open Go.RowKit

set_option maxHeartbeats 1000000 in
theorem walk_NatShifts (a0 : Option Addr) (len0 cap0 : Nat) (z0 : List Nat) (a1 : Int) (w : World) (h0 : Sl w a0 len0 cap0 z0) (hb : -9223372036854775808 ≤ a1 ∧ a1 ≤ 9223372036854775807) (hT : Tab w) :
    Calls Tryd.prog 6 #[.slice a0 len0 cap0, .int .i64 a1] w fun e w' => e = .returned (.bool true) ∧ Below w.heap.size w w' := by
  go_enter Tryd.func6, Tryd.ntmps6
  go_wp2_with fail
  refine (awake_any w hT).mono ?_
  rintro e w1 ⟨rfl, b⟩
  have L := Live.mk b
  clear hT b
  go_wp2_with fail
  refine (mill_any z0 60 _ _ _ w1 (h0.mono L.below) (by omega)).mono ?_
  rintro e w2 ⟨vx, ok, x, rfl, ix, lx, b⟩
  replace L := (L.step b).cons ix
  clear b ix
  clear h0
  cases ok
  · go_wp2_with fail
    go_ret
    exact ⟨rfl, L.below⟩
  · have hm1 := Int.emod_nonneg a1 (show (3000 : Int) ≠ 0 by omega)
    have hm2 := Int.emod_lt_of_pos a1 (show (0 : Int) < 3000 by omega)
    have hm3 := Int.emod_nonneg a1 (show (70 : Int) ≠ 0 by omega)
    have hm4 := Int.emod_lt_of_pos a1 (show (0 : Int) < 70 by omega)
    have HM1 := fun W => mod_any a1 3000 W (by omega) (by omega) hb.1 hb.2
    have HM2 := fun W => mod_any a1 70 W (by omega) (by omega) hb.1 hb.2
    obtain ⟨k0, hk0⟩ : ∃ k : Nat, a1 % 3000 = (k : Int) := ⟨(a1 % 3000).toNat, by omega⟩
    obtain ⟨k1, hk1⟩ : ∃ k : Nat, a1 % 70 = (k : Int) := ⟨(a1 % 70).toNat, by omega⟩
    rw [hk0] at HM1 hm1 hm2
    rw [hk1] at HM2 hm3 hm4
    have HA := Lib.hid HM1
    have HB := Lib.hid HM2
    have hk0b : k0 < 3000 := by omega
    have hk1b : k1 < 3000 := by omega
    clear HM1 HM2 hk0 hk1 hm1 hm2 hm3 hm4 hb
    go_wp2_with fail
    refine (HA.out w2).mono ?_
    rintro e w' ⟨rfl, rfl⟩
    skip
    go_wp2_with fail
    refine (HB.out w2).mono ?_
    rintro e w' ⟨rfl, rfl⟩
    skip
    go_wp2_with fail
    have L2 := L.step ((Below.refl w2.heap.size w2).alloc (Nat.le_refl _) (.cells #[.int .i64 (k0 : Int), .int .i64 (k1 : Int)] 3))
    have hc0 : (w2.alloc (.cells #[.int .i64 (k0 : Int), .int .i64 (k1 : Int)] 3)).cell? ⟨w2.heap.size, 0, none⟩ = some (.int .i64 (k0 : Int)) := by simp
    have hc1 : (w2.alloc (.cells #[.int .i64 (k0 : Int), .int .i64 (k1 : Int)] 3)).cell? ⟨w2.heap.size, 1, none⟩ = some (.int .i64 (k1 : Int)) := by simp
    have hgs : w2.heap.size < (w2.alloc (.cells #[.int .i64 (k0 : Int), .int .i64 (k1 : Int)] 3)).heap.size := by simp
    generalize w2.alloc (.cells #[.int .i64 (k0 : Int), .int .i64 (k1 : Int)] 3) = wb at *
    generalize w2.heap.size = g at *
    clear L
    go_loopw [27] (fun i wr => ∃ j : Nat, i = .int .i64 j ∧ j ≤ 2 ∧ Below wb.heap.size wb wr) (fun i _ => 2 - (intOf i).toNat)
    case atStart => exact ⟨0, rfl, by omega, Below.refl _ _⟩
    case round =>
      obtain ⟨j, rfl, hj, B⟩ := hrel
      have L := L2.step B
      rcases Nat.eq_or_lt_of_le hj with rfl | hjl
      · go_wp2_with fail
        go_ret
        exact ⟨rfl, L.below⟩
      · have hk : ∃ k : Nat, wr.cell? ⟨g, j, none⟩ = some (.int .i64 (k : Int)) ∧ k < 3000 := by
          rcases (show j = 0 ∨ j = 1 by omega) with rfl | rfl
          · exact ⟨k0, (B.cell (p := ⟨g, 0, none⟩) hgs).trans hc0, hk0b⟩
          · exact ⟨k1, (B.cell (p := ⟨g, 1, none⟩) hgs).trans hc1, hk1b⟩
        have BB := B
        obtain ⟨k, hck, hkb⟩ := hk
        clear hc0 hc1
        have hq : len (x / 2 ^ k) ≤ len x := len_mono (Nat.div_le_self _ _)
        have hr : len (x % 2 ^ k) ≤ len x := len_mono (Nat.mod_le _ _)
        have hu := len_shl x k
        have hv := len_shl (x / 2 ^ k) k
        have E1 := Lib.hid (Nat.mul_div_cancel x (Nat.pow_pos (n := k) (by omega : 0 < 2)))
        have E2 := Lib.hid (show x / 2 ^ k * 2 ^ k + x % 2 ^ k = x by rw [Nat.mul_comm]; exact Nat.div_add_mod x (2 ^ k))
        have hbl : blen (x % 2 ^ k) ≤ k := blen_le (Nat.mod_lt _ (Nat.pow_pos (by omega)))
        go_wp2_with fail
        refine (shlK_any x k _ wr (L.get (by simp)) (by omega) (by omega)).mono ?_
        rintro e w101 ⟨vu, rfl, o⟩
        replace BB := BB.trans (o.below.mono BB.size)
        replace L := L.add o
        clear o
        go_wp2_with fail
        refine (shrK_any x k _ w101 (L.get (by simp)) (by omega) (by omega)).mono ?_
        rintro e w102 ⟨vd, rfl, o⟩
        replace BB := BB.trans (o.below.mono BB.size)
        replace L := L.add o
        clear o
        go_wp2_with fail
        refine (lowK_any x k _ w102 (L.get (by simp)) (by omega) (by omega)).mono ?_
        rintro e w103 ⟨vl, rfl, o⟩
        replace BB := BB.trans (o.below.mono BB.size)
        replace L := L.add o
        clear o
        go_wp2_with fail
        refine (rshlK_any x k _ w103 (L.get (by simp)) (by omega) (by omega)).mono ?_
        rintro e w104 ⟨v1, rfl, o⟩
        replace BB := BB.trans (o.below.mono BB.size)
        replace L := L.add o
        clear o
        go_wp2_with fail
        refine (same_yes (x * 2 ^ k) (x * 2 ^ k) _ _ w104 (L.get (by simp)) (L.get (by simp)) rfl).mono ?_
        rintro e w' ⟨rfl, rfl⟩
        skip
        go_wp2_with fail
        refine (rshrK_any x k _ w104 (L.get (by simp)) (by omega) (by omega)).mono ?_
        rintro e w105 ⟨v2, rfl, o⟩
        replace BB := BB.trans (o.below.mono BB.size)
        replace L := L.add o
        clear o
        go_wp2_with fail
        refine (same_yes (x / 2 ^ k) (x / 2 ^ k) _ _ w105 (L.get (by simp)) (L.get (by simp)) rfl).mono ?_
        rintro e w' ⟨rfl, rfl⟩
        skip
        go_wp2_with fail
        refine (rlowK_any x k _ w105 (L.get (by simp)) (by omega) (by omega)).mono ?_
        rintro e w106 ⟨v3, rfl, o⟩
        replace BB := BB.trans (o.below.mono BB.size)
        replace L := L.add o
        clear o
        go_wp2_with fail
        refine (same_yes (x % 2 ^ k) (x % 2 ^ k) _ _ w106 (L.get (by simp)) (L.get (by simp)) rfl).mono ?_
        rintro e w' ⟨rfl, rfl⟩
        skip
        go_wp2_with fail
        refine (shrK_any (x * 2 ^ k) k _ w106 (L.get (by simp)) (by omega) (by omega)).mono ?_
        rintro e w107 ⟨v4, rfl, o⟩
        replace BB := BB.trans (o.below.mono BB.size)
        replace L := L.add o
        clear o
        go_wp2_with fail
        refine (same_yes (x * 2 ^ k / 2 ^ k) x _ _ w107 (L.get (by simp)) (L.get (by simp)) E1.out).mono ?_
        rintro e w' ⟨rfl, rfl⟩
        skip
        go_wp2_with fail
        refine (shlK_any (x / 2 ^ k) k _ w107 (L.get (by simp)) (by omega) (by omega)).mono ?_
        rintro e w108 ⟨v5, rfl, o⟩
        replace BB := BB.trans (o.below.mono BB.size)
        replace L := L.add o
        clear o
        go_wp2_with fail
        refine (add_any (x / 2 ^ k * 2 ^ k) (x % 2 ^ k) _ _ w108 (L.get (by simp)) (L.get (by simp)) (by omega) (by omega)).mono ?_
        rintro e w109 ⟨v6, rfl, o⟩
        replace BB := BB.trans (o.below.mono BB.size)
        replace L := L.add o
        clear o
        go_wp2_with fail
        refine (same_yes (x / 2 ^ k * 2 ^ k + x % 2 ^ k) x _ _ w109 (L.get (by simp)) (L.get (by simp)) E2.out).mono ?_
        rintro e w' ⟨rfl, rfl⟩
        skip
        go_wp2_with fail
        refine (nbits_any (x % 2 ^ k) _ w109 (L.get (by simp)) (by omega)).mono ?_
        rintro e w' ⟨rfl, rfl⟩
        generalize blen (x % 2 ^ k) = bl at *
        go_wp2_with fail
        go_roundw
        case rel => exact ⟨j + 1, by go_num, by omega, BB⟩
        case measure => simp [intOf]; omega

end Go.Proofs.YtklbkgcjbekdfaaDoor
