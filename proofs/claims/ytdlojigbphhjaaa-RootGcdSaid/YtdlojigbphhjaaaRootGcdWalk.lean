/- The walk of RootGcd: whatever the input, the law returns true and turns nothing that was there. -/
import Derived.Test.YtdlojigbphhjaaaAwake4
namespace Go.Proofs.Ytdlojigbphhjaaa
open Go.RowKit

set_option maxHeartbeats 2000000 in
theorem walk_RootGcd (a0 : Option Addr) (len0 cap0 : Nat) (z0 : List Nat) (a1 : Option Addr) (len1 cap1 : Nat) (z1 : List Nat) (a2 : Option Addr) (len2 cap2 : Nat) (z2 : List Nat) (w : World) (h0 : Sl w a0 len0 cap0 z0) (h1 : Sl w a1 len1 cap1 z1) (h2 : Sl w a2 len2 cap2 z2) :
    Calls Try.prog 6 #[.slice a0 len0 cap0, .slice a1 len1 cap1, .slice a2 len2 cap2] w fun e w' => e = .returned (.bool true) ∧ Below w.heap.size w w' := by
  go_enter Try.func6, Try.ntmps6
  go_wp2_with fail
  refine (awake4_any w).mono ?_
  rintro e w1 ⟨rfl, b⟩
  have L := Live.mk b
  clear b
  go_wp2_with fail
  refine (mill_any z0 12 _ _ _ w1 (h0.mono L.below) (by omega)).mono ?_
  rintro e w2 ⟨vx, ok1, x, rfl, ix, lx, b⟩
  replace L := (L.step b).cons ix
  clear b ix
  go_wp2_with fail
  refine (mill_any z1 12 _ _ _ w2 (h1.mono L.below) (by omega)).mono ?_
  rintro e w3 ⟨vy, ok2, y, rfl, ix, ly, b⟩
  replace L := (L.step b).cons ix
  clear b ix
  go_wp2_with fail
  refine (mill_any z2 6 _ _ _ w3 (h2.mono L.below) (by omega)).mono ?_
  rintro e w4 ⟨vz, ok3, z, rfl, ix, lz, b⟩
  replace L := (L.step b).cons ix
  clear b ix
  clear h0 h1 h2
  by_cases hok : (ok1 && ok2 && ok3) = true
  · simp only [Bool.and_eq_true] at hok
    obtain ⟨⟨rfl, rfl⟩, rfl⟩ := hok
    have hl1 := len_mul x z
    have hl2 := len_mul y z
    go_wp2_with fail
    refine (rmul_any x z vx vz w4 (L.get (by simp)) (L.get (by simp)) (by omega) (by omega)).mono ?_
    rintro e w5 ⟨v1, rfl, o⟩
    replace L := L.add o
    clear o
    go_wp2_with fail
    refine (rmul_any y z vy vz w5 (L.get (by simp)) (L.get (by simp)) (by omega) (by omega)).mono ?_
    rintro e w6 ⟨v2, rfl, o⟩
    replace L := L.add o
    clear o
    have HD1 := Lib.hid (dvB_of (Nat.gcd_dvd_left (x * z) (y * z)))
    have HD2 := Lib.hid (dvB_of (Nat.gcd_dvd_right (x * z) (y * z)))
    have HD3 := Lib.hid (dvB_of (Nat.dvd_gcd (Nat.dvd_mul_left z x) (Nat.dvd_mul_left z y)))
    have HSY := Lib.hid (Nat.gcd_comm (x * z) (y * z))
    have hlg : len (Nat.gcd (x * z) (y * z)) ≤ 20 := by
      rcases Nat.eq_zero_or_pos (x * z) with h | h
      · rw [h, Nat.gcd_zero_left]; omega
      · have := len_mono (Nat.le_of_dvd h (Nat.gcd_dvd_left (x * z) (y * z))); omega
    go_wp2_with fail
    refine (gcd_any (x * z) (y * z) v1 v2 w6 (L.get (by simp)) (L.get (by simp)) (by omega) (by omega)).mono ?_
    rintro e w7 ⟨vg, rfl, o⟩
    replace L := L.add o
    clear o
    have HRG := Lib.hid (fun W u v h1 h2 => rgcd_any (x * z) (y * z) u v W h1 h2 (by omega) (by omega))
    have HGQ := Lib.hid (fun W u v h1 h2 => gcd_any (y * z) (x * z) u v W h1 h2 (by omega) (by omega))
    rw [← HSY.out] at HGQ
    clear HSY
    generalize Nat.gcd (x * z) (y * z) = G at *
    go_wp2_with fail
    refine (validN_any G vg w7 (L.get (by simp))).mono ?_
    rintro e w' ⟨rfl, rfl⟩
    skip
    go_wp2_with fail
    refine (HRG.out w7 v1 v2 (L.get (by simp)) (L.get (by simp))).mono ?_
    rintro e w8 ⟨vh, rfl, ih, b⟩
    replace L := (L.step b).cons ih
    clear ih b HRG
    go_wp2_with fail
    refine (same_yes G G vg vh w8 (L.get (by simp)) (L.get (by simp)) rfl).mono ?_
    rintro e w' ⟨rfl, rfl⟩
    skip
    have HK := rdivides_any (x * z) G v1 vg w8 (L.get (by simp)) (L.get (by simp)) (by omega) (by omega)
    rw [HD1.out] at HK
    have HK2 := Lib.hid HK
    clear HK HD1
    go_wp2_with fail
    refine (HK2.out).mono ?_
    rintro e w9 ⟨rfl, b⟩
    replace L := L.step b
    clear b
    clear HK2
    have HK := rdivides_any (y * z) G v2 vg w9 (L.get (by simp)) (L.get (by simp)) (by omega) (by omega)
    rw [HD2.out] at HK
    have HK2 := Lib.hid HK
    clear HK HD2
    go_wp2_with fail
    refine (HK2.out).mono ?_
    rintro e w10 ⟨rfl, b⟩
    replace L := L.step b
    clear b
    clear HK2
    have HK := rdivides_any (G) z vg vz w10 (L.get (by simp)) (L.get (by simp)) (by omega) (by omega)
    rw [HD3.out] at HK
    have HK2 := Lib.hid HK
    clear HK HD3
    go_wp2_with fail
    refine (HK2.out).mono ?_
    rintro e w11 ⟨rfl, b⟩
    replace L := L.step b
    clear b
    clear HK2
    go_wp2_with fail
    refine (HGQ.out w11 v2 v1 (L.get (by simp)) (L.get (by simp))).mono ?_
    rintro e w12 ⟨v5, rfl, o⟩
    replace L := L.add o
    clear o
    go_wp2_with fail
    refine (same_yes G G vg v5 w12 (L.get (by simp)) (L.get (by simp)) rfl).mono ?_
    rintro e w' ⟨rfl, rfl⟩
    skip
    go_wp2_with fail
    go_ret
    exact ⟨rfl, L.below⟩
  · cases ok1 <;> cases ok2 <;> cases ok3 <;> first | (exact absurd rfl hok) | (go_wp2_with fail; go_ret; exact ⟨rfl, L.below⟩)

end Go.Proofs.Ytdlojigbphhjaaa
