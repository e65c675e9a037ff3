/- The walk of ProductBits: whatever the input, the law returns true and turns nothing that was there. -/
import Derived.Test.YtmfoaljikhicdaaAwake2
import Derived.Test.YtmfoaljikhicdaaNBits
namespace Go.Proofs.Ytmfoaljikhicdaa
open Go.RowKit

set_option maxHeartbeats 1000000 in
theorem walk_ProductBits (a0 : Option Addr) (len0 cap0 : Nat) (z0 : List Nat) (a1 : Option Addr) (len1 cap1 : Nat) (z1 : List Nat) (w : World) (h0 : Sl w a0 len0 cap0 z0) (h1 : Sl w a1 len1 cap1 z1) :
    Calls Try.prog 8 #[.slice a0 len0 cap0, .slice a1 len1 cap1] w fun e w' => e = .returned (.bool true) ∧ Below w.heap.size w w' := by
  go_enter Try.func8, Try.ntmps8
  go_wp2_with fail
  refine (awake2_any w).mono ?_
  rintro e w1 ⟨rfl, b⟩
  have L := Live.mk b
  clear b
  go_wp2_with fail
  refine (mill_any z0 90 _ _ _ w1 (h0.mono L.below) (by omega)).mono ?_
  rintro e w2 ⟨vx, ok1, x, rfl, ix, lx, b⟩
  replace L := (L.step b).cons ix
  clear b ix
  go_wp2_with fail
  refine (mill_any z1 90 _ _ _ w2 (h1.mono L.below) (by omega)).mono ?_
  rintro e w3 ⟨vy, ok2, y, rfl, ix, ly, b⟩
  replace L := (L.step b).cons ix
  clear b ix
  clear h0 h1
  by_cases hok : (ok1 && ok2) = true
  · simp only [Bool.and_eq_true] at hok
    obtain ⟨rfl, rfl⟩ := hok
    have lxy := len_mul x y
    obtain ⟨A, n, c, rfl, hs⟩ := show IsN w3 vx x from L.get (by simp)
    obtain ⟨B, m, d, rfl, ht⟩ := show IsN w3 vy y from L.get (by simp)
    have hx : len x = n := hs.len
    have hy : len y = m := ht.len
    have hbx := blen_le_len x
    have hby := blen_le_len y
    have hbp := blen_le_len (x * y)
    have H : n = 0 ∧ x * y = 0 ∨ m = 0 ∧ x * y = 0 ∨ 0 < n ∧ 0 < m ∧ (blen (x * y) = blen x + blen y ∨ blen (x * y) = blen x + blen y - 1) ∧ 0 < blen x := by
      rcases Nat.eq_zero_or_pos n with h | h
      · exact .inl ⟨h, by rw [len_eq_zero (x := x) (by omega), Nat.zero_mul]⟩
      · rcases Nat.eq_zero_or_pos m with h2 | h2
        · exact .inr (.inl ⟨h2, by rw [len_eq_zero (x := y) (by omega), Nat.mul_zero]⟩)
        · have px : 0 < x := Nat.pos_of_ne_zero (fun e => by rw [e, len_zero] at hx; omega)
          have py : 0 < y := Nat.pos_of_ne_zero (fun e => by rw [e, len_zero] at hy; omega)
          exact .inr (.inr ⟨h, h2, blen_mul px py, blen_pos px⟩)
    have HH := Lib.hid H
    clear H hs ht
    go_wp2_with fail
    refine (mul_any x y _ _ w3 (L.get (by simp)) (L.get (by simp)) (by omega) (by omega)).mono ?_
    rintro e w4 ⟨vp, rfl, o⟩
    replace L := L.add o
    clear o
    have HX := Lib.hid (nbits_any x _ w4 (L.get (v := .slice A n c) (by simp)) (by omega))
    have HY := Lib.hid (nbits_any y _ w4 (L.get (v := .slice B m d) (by simp)) (by omega))
    go_wp2_with fail
    refine (nbits_any (x * y) _ w4 (L.get (by simp)) (by omega)).mono ?_
    rintro e w' ⟨rfl, rfl⟩
    skip
    rcases HH.out with ⟨rfl, h0⟩ | ⟨rfl, h0⟩ | ⟨hn, hm, hb, hbp⟩
    · rw [h0, blen_zero]
      clear h0 hbp
      go_wp2_with fail
      go_ret
      exact ⟨rfl, L.below⟩
    · rw [h0, blen_zero]
      clear h0 hbp
      rcases Nat.eq_zero_or_pos n with rfl | hn
      · go_wp2_with fail
        go_ret
        exact ⟨rfl, L.below⟩
      · have hnz : ((n : Int) == 0) = false := by rw [beq_eq_false_iff_ne]; omega
        go_wp2_with fail
        go_ret
        exact ⟨rfl, L.below⟩
    · have hnz : ((n : Int) == 0) = false := by rw [beq_eq_false_iff_ne]; omega
      have hmz : ((m : Int) == 0) = false := by rw [beq_eq_false_iff_ne]; omega
      have hxl : blen x ≤ 2880 := by omega
      have hyl : blen y ≤ 2880 := by omega
      generalize blen (x * y) = bp at *
      generalize blen x = bx at *
      generalize blen y = bly at *
      clear hx hy lxy
      go_wp2_with fail
      refine HX.out.mono ?_
      rintro e w' ⟨rfl, rfl⟩
      go_wp2_with fail
      refine HY.out.mono ?_
      rintro e w' ⟨rfl, rfl⟩
      rcases hb with rfl | hb
      · go_wp2_with fail
        go_ret
        exact ⟨rfl, L.below⟩
      · have e1 : ((bp : Int) == (bx : Int) + bly) = false := by rw [beq_eq_false_iff_ne]; omega
        have e2 : ((bp : Int) == (bx : Int) + bly - 1) = true := by rw [beq_iff_eq]; omega
        clear hb
        go_wp2_with fail
        go_ret
        exact ⟨rfl, L.below⟩
  · cases ok1 <;> cases ok2 <;> first | (exact absurd rfl hok) | (go_wp2_with fail; go_ret; exact ⟨rfl, L.below⟩)

end Go.Proofs.Ytmfoaljikhicdaa
