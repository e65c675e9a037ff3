/- The walk of ProductPower: whatever the input, the law returns true and turns nothing that was there. -/
import Derived.Test.YtmfoaljikhicdaaAwake2
import Derived.Test.YtmfoaljikhicdaaRefProd
namespace Go.Proofs.Ytmfoaljikhicdaa
open Go.RowKit

set_option maxHeartbeats 1000000 in
theorem walk_ProductPower (a0 : Option Addr) (len0 cap0 : Nat) (z0 : List Nat) (a1 : Int) (a2 : Int) (w : World) (h0 : Sl w a0 len0 cap0 z0) (hb1 : -9223372036854775808 ≤ a1 ∧ a1 ≤ 9223372036854775807) (hb2 : -9223372036854775808 ≤ a2 ∧ a2 ≤ 9223372036854775807) :
    Calls Try.prog 7 #[.slice a0 len0 cap0, .int .i64 a1, .int .i64 a2] w fun e w' => e = .returned (.bool true) ∧ Below w.heap.size w w' := by
  have HM1 := fun W => mod_any a1 65 W (by omega) (by omega) hb1.1 hb1.2
  have HM2 := fun W => mod_any a2 65 W (by omega) (by omega) hb2.1 hb2.2
  obtain ⟨n, hn⟩ : ∃ n : Nat, a1 % 65 = (n : Int) := ⟨(a1 % 65).toNat, by omega⟩
  obtain ⟨m, hm⟩ : ∃ m : Nat, a2 % 65 = (m : Int) := ⟨(a2 % 65).toNat, by omega⟩
  have hn2 : n ≤ 64 := by omega
  have hm2 : m ≤ 64 := by omega
  rw [hn] at HM1
  rw [hm] at HM2
  have HA := Lib.hid HM1
  have HB := Lib.hid HM2
  clear HM1 HM2 hn hm hb1 hb2
  go_enter Try.func7, Try.ntmps7
  go_wp2_with fail
  refine (awake2_any w).mono ?_
  rintro e w1 ⟨rfl, b⟩
  have L := Live.mk b
  clear b
  go_wp2_with fail
  refine (mill_any z0 4 _ _ _ w1 (h0.mono L.below) (by omega)).mono ?_
  rintro e w2 ⟨vx, ok, x, rfl, ix, lx, b⟩
  replace L := (L.step b).cons ix
  clear b ix
  clear h0
  cases ok
  · go_wp2_with fail
    go_ret
    exact ⟨rfl, L.below⟩
  · skip
    go_wp2_with fail
    refine (HA.out w2).mono ?_
    rintro e w' ⟨rfl, rfl⟩
    skip
    go_wp2_with fail
    refine (HB.out w2).mono ?_
    rintro e w' ⟨rfl, rfl⟩
    skip
    obtain ⟨k, hk⟩ : ∃ k : Nat, k = if 64 < n + m then 64 - n else m := ⟨_, rfl⟩
    have hcase : (64 < n + m ∧ (64 : Int) - n = (k : Int)) ∨ (¬ 64 < n + m ∧ k = m) := by
      by_cases h : 64 < n + m
      · rw [if_pos h] at hk
        exact .inl ⟨h, by omega⟩
      · rw [if_neg h] at hk
        exact .inr ⟨h, hk⟩
    have hnk : n + k ≤ 64 := by
      by_cases h : 64 < n + m
      · rw [if_pos h] at hk; omega
      · rw [if_neg h] at hk; omega
    have hlp := len_pow x n
    have hlk := len_pow x k
    have hnx : n * len x ≤ 64 * 4 := Nat.mul_le_mul hn2 lx
    have hkx : k * len x ≤ 64 * 4 := Nat.mul_le_mul (show k ≤ 64 by omega) lx
    have hl1 : len (x ^ n) ≤ 257 := by omega
    have hl2 : len (x ^ k) ≤ 257 := by omega
    have HE := Lib.hid (Nat.pow_add x n k).symm
    have HP := Lib.hid (fun v W h => power_any x (n + k) v W h (by omega) hnk)
    rw [show ((n + k : Nat) : Int) = (n : Int) + k from by omega] at HP
    clear hk hlp hlk hnx hkx
    rcases hcase with ⟨hgt, hk⟩ | ⟨hgt, rfl⟩
    · skip
      go_wp2_with fail
      refine (power_any x n _ w2 (L.get (by simp)) (by omega) (by omega)).mono ?_
      rintro e w3 ⟨v1, rfl, o⟩
      replace L := L.add o
      clear o
      go_wp2_with fail
      refine (rpower_any x n _ w3 (L.get (by simp)) (by omega) (by omega)).mono ?_
      rintro e w4 ⟨v2, rfl, o⟩
      replace L := L.add o
      clear o
      go_wp2_with fail
      refine (same_yes (x ^ n) (x ^ n) _ _ w4 (L.get (by simp)) (L.get (by simp)) rfl).mono ?_
      rintro e w' ⟨rfl, rfl⟩
      skip
      go_wp2_with fail
      refine (power_any x n _ w4 (L.get (by simp)) (by omega) (by omega)).mono ?_
      rintro e w5 ⟨v3, rfl, o⟩
      replace L := L.add o
      clear o
      go_wp2_with fail
      refine (power_any x k _ w5 (L.get (by simp)) (by omega) (by omega)).mono ?_
      rintro e w6 ⟨v4, rfl, o⟩
      replace L := L.add o
      clear o
      go_wp2_with fail
      refine (mul_any (x ^ n) (x ^ k) _ _ w6 (L.get (by simp)) (L.get (by simp)) (by omega) (by omega)).mono ?_
      rintro e w7 ⟨v5, rfl, o⟩
      replace L := L.add o
      clear o
      go_wp2_with fail
      refine (HP.out _ w7 (L.get (by simp))).mono ?_
      rintro e w8 ⟨v6, rfl, o⟩
      replace L := L.add o
      clear o
      go_wp2_with fail
      refine (same_yes (x ^ n * x ^ k) (x ^ (n + k)) _ _ w8 (L.get (by simp)) (L.get (by simp)) HE.out).mono ?_
      rintro e w' ⟨rfl, rfl⟩
      skip
      go_wp2_with fail
      go_ret
      exact ⟨rfl, L.below⟩
    · skip
      go_wp2_with fail
      refine (power_any x n _ w2 (L.get (by simp)) (by omega) (by omega)).mono ?_
      rintro e w3 ⟨v1, rfl, o⟩
      replace L := L.add o
      clear o
      go_wp2_with fail
      refine (rpower_any x n _ w3 (L.get (by simp)) (by omega) (by omega)).mono ?_
      rintro e w4 ⟨v2, rfl, o⟩
      replace L := L.add o
      clear o
      go_wp2_with fail
      refine (same_yes (x ^ n) (x ^ n) _ _ w4 (L.get (by simp)) (L.get (by simp)) rfl).mono ?_
      rintro e w' ⟨rfl, rfl⟩
      skip
      go_wp2_with fail
      refine (power_any x n _ w4 (L.get (by simp)) (by omega) (by omega)).mono ?_
      rintro e w5 ⟨v3, rfl, o⟩
      replace L := L.add o
      clear o
      go_wp2_with fail
      refine (power_any x k _ w5 (L.get (by simp)) (by omega) (by omega)).mono ?_
      rintro e w6 ⟨v4, rfl, o⟩
      replace L := L.add o
      clear o
      go_wp2_with fail
      refine (mul_any (x ^ n) (x ^ k) _ _ w6 (L.get (by simp)) (L.get (by simp)) (by omega) (by omega)).mono ?_
      rintro e w7 ⟨v5, rfl, o⟩
      replace L := L.add o
      clear o
      go_wp2_with fail
      refine (HP.out _ w7 (L.get (by simp))).mono ?_
      rintro e w8 ⟨v6, rfl, o⟩
      replace L := L.add o
      clear o
      go_wp2_with fail
      refine (same_yes (x ^ n * x ^ k) (x ^ (n + k)) _ _ w8 (L.get (by simp)) (L.get (by simp)) HE.out).mono ?_
      rintro e w' ⟨rfl, rfl⟩
      skip
      go_wp2_with fail
      go_ret
      exact ⟨rfl, L.below⟩

end Go.Proofs.Ytmfoaljikhicdaa
