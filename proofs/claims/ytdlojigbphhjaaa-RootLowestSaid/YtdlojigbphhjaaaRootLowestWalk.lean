/- The walk of RootLowest: whatever the input, the law returns true and turns nothing that was there. -/
import Derived.Test.YtdlojigbphhjaaaAwake4
namespace Go.Proofs.Ytdlojigbphhjaaa
open Go.RowKit

set_option maxHeartbeats 2000000 in
theorem walk_RootLowest (a0 : Option Addr) (len0 cap0 : Nat) (z0 : List Nat) (a1 : Option Addr) (len1 cap1 : Nat) (z1 : List Nat) (a2 : Option Addr) (len2 cap2 : Nat) (z2 : List Nat) (w : World) (h0 : Sl w a0 len0 cap0 z0) (h1 : Sl w a1 len1 cap1 z1) (h2 : Sl w a2 len2 cap2 z2) :
    Calls Try.prog 7 #[.slice a0 len0 cap0, .slice a1 len1 cap1, .slice a2 len2 cap2] w fun e w' => e = .returned (.bool true) ∧ Below w.heap.size w w' := by
  go_enter Try.func7, Try.ntmps7
  go_wp2_with fail
  refine (awake4_any w).mono ?_
  rintro e w1 ⟨rfl, b⟩
  have L := Live.mk b
  clear b
  go_wp2_with fail
  refine (mill_any z0 12 _ _ _ w1 (h0.mono L.below) (by omega)).mono ?_
  rintro e w2 ⟨vx, ok1, x, rfl, ix, lx, b⟩
  replace L := (L.step b).cons ix
  clear b ix
  go_wp2_with fail
  refine (mill_any z1 12 _ _ _ w2 (h1.mono L.below) (by omega)).mono ?_
  rintro e w3 ⟨vy, ok2, y, rfl, ix, ly, b⟩
  replace L := (L.step b).cons ix
  clear b ix
  go_wp2_with fail
  refine (mill_any z2 4 _ _ _ w3 (h2.mono L.below) (by omega)).mono ?_
  rintro e w4 ⟨vz, ok3, z, rfl, ix, lz, b⟩
  replace L := (L.step b).cons ix
  clear b ix
  clear h0 h1 h2
  by_cases hok : (ok1 && ok2 && ok3) = true
  · simp only [Bool.and_eq_true] at hok
    obtain ⟨⟨rfl, rfl⟩, rfl⟩ := hok
    have hl1 := len_mul x z
    have hl2 := len_mul y z
    obtain ⟨B, m, d, rfl, hs⟩ := show IsN w4 vy y from L.get (by simp)
    have hm : len y = m := hs.len
    clear hs
    obtain ⟨C, m2, d2, rfl, hs⟩ := show IsN w4 vz z from L.get (by simp)
    have hm2 : len z = m2 := hs.len
    clear hs
    go_wp2_with fail
    refine (rmul_any x z vx (.slice C m2 d2) w4 (L.get (by simp)) (L.get (by simp)) (by omega) (by omega)).mono ?_
    rintro e w5 ⟨v1, rfl, o⟩
    replace L := L.add o
    clear o
    go_wp2_with fail
    refine (rmul_any y z (.slice B m d) (.slice C m2 d2) w5 (L.get (by simp)) (L.get (by simp)) (by omega) (by omega)).mono ?_
    rintro e w6 ⟨v2, rfl, o⟩
    replace L := L.add o
    clear o
    rcases (show y * z = 0 ∧ (y = 0 ∨ z = 0) ∨ (0 < y ∧ 0 < z) from by
      rcases Nat.eq_zero_or_pos y with h | h
      · exact .inl ⟨by rw [h, Nat.zero_mul], .inl h⟩
      · rcases Nat.eq_zero_or_pos z with h2 | h2
        · exact .inl ⟨by rw [h2, Nat.mul_zero], .inr h2⟩
        · exact .inr ⟨h, h2⟩) with ⟨h0, hz⟩ | ⟨hy, hz⟩
    · have HLO := Lib.hid (lowest_zero (x * z) v1 v2 w6 (L.get (by simp)) (by rw [← h0]; exact L.get (by simp)))
      clear h0 hl2
      go_wp2_with fail
      refine (HLO.out).mono ?_
      rintro e w7 ⟨rfl, b⟩
      replace L := L.step b
      clear b HLO
      have hmz : m = 0 ∨ m ≠ 0 ∧ m2 = 0 := by
        rcases hz with rfl | rfl
        · rw [len_zero] at hm; omega
        · rw [len_zero] at hm2; omega
      clear hz hm hm2
      rcases hmz with rfl | ⟨hmn, rfl⟩
      · skip
        go_wp2_with fail
        go_ret
        exact ⟨rfl, L.below⟩
      · have hmf : ((m : Int) == 0) = false := by rw [beq_eq_false_iff_ne]; omega
        go_wp2_with fail
        go_ret
        exact ⟨rfl, L.below⟩
    · have hyl := len_pos hy
      have hzl := len_pos hz
      have hyz : 0 < y * z := Nat.mul_pos hy hz
      have hmf : ((m : Int) == 0) = false := by rw [beq_eq_false_iff_ne]; omega
      have hmf2 : ((m2 : Int) == 0) = false := by rw [beq_eq_false_iff_ne]; omega
      have HLO := lowest_any (x * z) (y * z) v1 v2 w6 (L.get (by simp)) (L.get (by simp)) (by omega) (by omega) hyz
      rw [(lowest_mul x y hz).1, (lowest_mul x y hz).2] at HLO
      have HLO2 := Lib.hid HLO
      have HCR := Lib.hid (lowest_cross x y)
      have HG1 := Lib.hid (lowest_gcd x hy)
      have hlp := len_div x (Nat.gcd x y)
      have hlq := len_div y (Nat.gcd x y)
      obtain ⟨P, hP⟩ : ∃ P, x / Nat.gcd x y = P := ⟨_, rfl⟩
      obtain ⟨Q, hQ⟩ : ∃ Q, y / Nat.gcd x y = Q := ⟨_, rfl⟩
      rw [hP] at HLO2 HCR HG1 hlp
      rw [hQ] at HLO2 HCR HG1 hlq
      clear hP hQ HLO hyz
      go_wp2_with fail
      refine (HLO2.out).mono ?_
      rintro e w7 ⟨vp, vq, rfl, op, oq, b⟩
      replace L := ((L.step b).cons (isN_of_own (x := P) op rfl)).cons (isN_of_own (x := Q) oq rfl)
      clear op oq b HLO2
      go_wp2_with fail
      refine (rmul_any P y vp (.slice B m d) w7 (L.get (by simp)) (L.get (by simp)) (by omega) (by omega)).mono ?_
      rintro e w8 ⟨v3, rfl, o⟩
      replace L := L.add o
      clear o
      go_wp2_with fail
      refine (rmul_any Q x vq vx w8 (L.get (by simp)) (L.get (by simp)) (by omega) (by omega)).mono ?_
      rintro e w9 ⟨v4, rfl, o⟩
      replace L := L.add o
      clear o
      go_wp2_with fail
      refine (same_yes (P * y) (Q * x) v3 v4 w9 (L.get (by simp)) (L.get (by simp)) HCR.out).mono ?_
      rintro e w' ⟨rfl, rfl⟩
      skip
      have HK := rgcd_any P Q vp vq w9 (L.get (by simp)) (L.get (by simp)) (by omega) (by omega)
      rw [HG1.out] at HK
      have HK2 := Lib.hid HK
      clear HK HG1 HCR
      go_wp2_with fail
      refine (HK2.out).mono ?_
      rintro e w10 ⟨v5, rfl, i5, b⟩
      replace L := (L.step b).cons i5
      clear i5 b HK2
      go_wp2_with fail
      refine (rof_any 1 w10 (by omega)).mono ?_
      rintro e w11 ⟨v6, rfl, o⟩
      replace L := L.add o
      clear o
      go_wp2_with fail
      refine (same_yes 1 1 v5 v6 w11 (L.get (by simp)) (L.get (by simp)) rfl).mono ?_
      rintro e w' ⟨rfl, rfl⟩
      skip
      go_wp2_with fail
      go_ret
      exact ⟨rfl, L.below⟩
  · cases ok1 <;> cases ok2 <;> cases ok3 <;> first | (exact absurd rfl hok) | (go_wp2_with fail; go_ret; exact ⟨rfl, L.below⟩)

end Go.Proofs.Ytdlojigbphhjaaa
