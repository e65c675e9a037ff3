/- decimal.Digits. -/
import Derived.Test.YtpgiolbnmlbjbaaGreatDoorRev
import Derived.Test.YtpgiolbnmlbjbaaGreatDoorBaseP
import Derived.Test.YtpgiolbnmlbjbaaGreatDoorBaseR
namespace Go.Proofs.YtpgiolbnmlbjbaaGreatDoor
open Go.RowKit
set_option linter.unusedVariables false
set_option linter.unusedSimpArgs false
set_option maxRecDepth 100000



theorem own_neB {w : World} {b b2 : Nat} {v v2 : Value} {l l2 : List Nat} (h : Own w b v l) (h2 : OwnB w b2 v2 l2) : v.ownBlock = none ∨ v.ownBlock ≠ v2.ownBlock := by
  rcases h.1.2 with ⟨rfl, _⟩ | ⟨g, cap, cur, rfl, _, hg, _⟩
  · exact .inl rfl
  · rcases h2.1.2 with ⟨rfl, _⟩ | ⟨g2, cap2, cur2, rfl, _, hg2, _⟩
    · exact .inr (fun e => by cases e)
    · refine .inr (fun e => ?_)
      have e1 : g = g2 := by injection e
      subst e1
      rw [hg] at hg2
      injection hg2 with e2
      injection e2 with e3 e4
      exact absurd e4 (by decide)
theorem dig9 (x k j : Nat) (hj : j < 9) : x / 10 ^ k % 1000000000 / 10 ^ j % 10 = x / 10 ^ (k + j) % 10 := by
  rw [Nat.pow_add, ← Nat.div_div_eq_div_mul]
  generalize x / 10 ^ k = y
  have : j = 0 ∨ j = 1 ∨ j = 2 ∨ j = 3 ∨ j = 4 ∨ j = 5 ∨ j = 6 ∨ j = 7 ∨ j = 8 := by omega
  rcases this with rfl | rfl | rfl | rfl | rfl | rfl | rfl | rfl | rfl <;> omega
theorem ld_next (x k j p d : Nat) (hj : j < 9) (hp : p = x / 10 ^ k % 1000000000 / 10 ^ j) (hd : d = p % 10) : ld (k + j) x ++ [48 + d] = ld (k + (j + 1)) x := by
  rw [← Nat.add_assoc, ld_snoc, hd, hp, dig9 x k j hj]
theorem k_lt {x k n : Nat} (h : 0 < x / 10 ^ k) (hn : len x ≤ n) : k < 10 * n := by
  have h1 : x < 10 ^ (10 * n) := Nat.lt_of_lt_of_le (lt_pow_len x) (Nat.le_trans (Nat.pow_le_pow_right W32_pos hn) (pow_W32_le n))
  have h2 : 10 ^ k ≤ x := by
    rcases Nat.lt_or_ge x (10 ^ k) with h3 | h3
    · rw [Nat.div_eq_of_lt h3] at h; omega
    · exact h3
  rcases Nat.lt_or_ge k (10 * n) with h3 | h3
  · exact h3
  · have := Nat.pow_le_pow_right (n := 10) (by decide) h3
    omega

set_option maxHeartbeats 400000 in
theorem digits_any (x : Nat) (va : Value) (w : World) (ha : IsN w va x) (hx : len x ≤ 1000000) :
    Calls Tryz.prog 120 #[va] w (RetS w (dd x)) := by
  have HB := Lib.hid (fun (k : Nat) (v : Value) (w' : World) (h : IsN w' v (x / 10 ^ k)) => nbits_any (x / 10 ^ k) v w' h (Nat.le_trans (len_mono (Nat.div_le_self _ _)) (by omega)))
  have HQ := Lib.hid (fun (k : Nat) (v : Value) (w' : World) (h : IsN w' v (x / 10 ^ k)) => qsmall_any (x / 10 ^ k) 1000000000 v w' h (Nat.le_trans (len_mono (Nat.div_le_self _ _)) (by omega)) (by omega) (by omega))
  have h00 := HB.out 0 va w (by rw [Nat.pow_zero, Nat.div_one]; exact ha)
  rw [Nat.pow_zero, Nat.div_one] at h00
  have H00 := Lib.hid h00; clear h00
  obtain ⟨A, n, c, rfl, ha'⟩ := ha
  rcases Nat.eq_zero_or_pos x with h0 | h0
  · subst h0
    rw [blen_zero] at H00
    rw [dd_zero]
    go_enter Tryz.func120, Tryz.ntmps120
    go_wp2_with fail
    refine H00.out.mono ?_
    rintro e w' ⟨rfl, rfl⟩
    go_wp2_with fail
    go_ret
    exact ⟨rfl, Below.refl _ _⟩
  · have hbp := blen_pos h0
    obtain ⟨bn, hbn⟩ : ∃ bn, blen x = bn + 1 := ⟨blen x - 1, by omega⟩
    rw [hbn] at H00
    clear hbp hbn
    have hbz : (((bn + 1 : Nat) : Int) == 0) = false := by simp; omega
    have hbz2 : ((bn : Int) + 1 == 0) = false := by simp; omega
    obtain ⟨L, hL⟩ : ∃ L, L = dd x := ⟨_, rfl⟩
    rw [← hL]
    have HL := Lib.hid hL; clear hL
    go_enter Tryz.func120, Tryz.ntmps120
    go_wp2_with fail
    refine H00.out.mono ?_
    rintro e w' ⟨rfl, rfl⟩
    go_wp2_with fail
    go_loopw [0, 3] (fun a rv wr => ∃ (k : Nat), IsN wr a (x / 10 ^ k) ∧ OwnB wr w.heap.size rv (ld k x) ∧ Below w.heap.size w wr) (fun _ rv _ => 10000100 - lenOf rv)
    case atStart => exact ⟨0, by rw [Nat.pow_zero, Nat.div_one]; exact ⟨A, n, c, rfl, ha'⟩, OwnB.nil _ _, Below.refl _ _⟩
    case round =>
      obtain ⟨k, hN, hown, hbe⟩ := hrel
      clear ha'
      have HBk := Lib.hid (HB.out k _ wr hN)
      have HQk := Lib.hid (HQ.out k _ wr hN)
      obtain ⟨A, n, c, rfl, hsl⟩ := hN
      clear hsl
      rcases Nat.eq_zero_or_pos (x / 10 ^ k) with hy | hy
      · rw [hy, blen_zero] at HBk
        have hxk : x < 10 ^ k := by
          rcases Nat.lt_or_ge x (10 ^ k) with h3 | h3
          · exact h3
          · have := Nat.div_pos h3 (Nat.pow_pos (show 0 < 10 by decide)); omega
        have hlen := ld_length k x
        obtain ⟨B, cb, rfl, hc1, hc2, hB⟩ := hown.form
        rw [hlen] at hown hc1 ⊢
        rcases hB with ⟨_, hnil⟩ | ⟨g, rfl, hg1, hg2⟩
        · rw [hnil] at hlen
          simp at hlen
          subst hlen
          rw [Nat.pow_zero] at hxk
          omega
        · have hk0 : 0 < k := by
            rcases Nat.eq_zero_or_pos k with rfl | h3
            · rw [Nat.pow_zero] at hxk; omega
            · exact h3
          have hk63 : k ≤ 9223372036854775807 := by unfold maxLen at hc2; omega
          have HT := Lib.hid (trimRight_any (ld k x) g k cb w.heap.size wr hown hk0 hk63)
          have hkk := k48_le (ld k x)
          rw [hlen] at hkk
          have hcut := hown.cut hkk
          rw [take_k48_ld hxk] at hcut
          obtain ⟨m, hm⟩ : ∃ m, m = k48 (ld k x) := ⟨_, rfl⟩
          rw [← hm] at HT hcut hkk
          have HR := Lib.hid (reverse_any (rd x) g m cb w wr hbe hcut hg1 (by omega))
          have HE := Lib.hid (dd_pos h0)
          clear hcut hown hbe hm hxk hlen hc1 hy HQk hkk
          go_wp2_with fail
          refine HBk.out.mono ?_
          rintro e w' ⟨rfl, rfl⟩
          go_wp2_with fail
          refine HT.out.mono ?_
          rintro e w' ⟨rfl, rfl⟩
          go_wp2_with fail
          refine HR.out.mono ?_
          rintro e w' ⟨rfl, o3, b3⟩
          have hcv := o3.conv
          rw [← HE.out, ← HL.out] at hcv
          go_wp2_with fail
          go_ret
          exact ⟨rfl, b3⟩
      · have hkl := k_lt hy hx
        have hbp := blen_pos hy
        obtain ⟨bn, hbn⟩ : ∃ bn, blen (x / 10 ^ k) = bn + 1 := ⟨blen (x / 10 ^ k) - 1, by omega⟩
        rw [hbn] at HBk
        clear hbp hbn hy
        obtain ⟨q, hq⟩ : ∃ q, q = x / 10 ^ k / 1000000000 := ⟨_, rfl⟩
        obtain ⟨r, hr⟩ : ∃ r, r = x / 10 ^ k % 1000000000 := ⟨_, rfl⟩
        rw [← hq, ← hr] at HQk
        have hr9 : r < 1000000000 := by omega
        have HQE := Lib.hid hq
        have HRE := Lib.hid hr
        clear hq hr
        have hbs := hbe.size
        have hlen := ld_length k x
        obtain ⟨B, cb, rfl, _, _, _⟩ := hown.form
        rw [hlen] at hown ⊢
        clear hlen
        go_wp2_with fail
        refine HBk.out.mono ?_
        rintro e w' ⟨rfl, rfl⟩
        go_wp2_with fail
        refine HQk.out.mono ?_
        rintro e w2 ⟨v, rfl, o⟩
        have hb2 := hbe.trans (o.below.mono hbs)
        have hov := o.own.base_le hbs
        have hrow := hown.below o.below
        clear hown o hbe
        go_wp2_with fail
        go_loopw [3, 4, 17] (fun rv part i wr => ∃ (j p : Nat), i = .int .i64 j ∧ j ≤ 9 ∧ part = .int .u32 p ∧ Hid (p = r / 10 ^ j) ∧ OwnB wr w.heap.size rv (ld (k + j) x) ∧ Own wr w.heap.size v (dig q) ∧ Below w.heap.size w wr) (fun _ _ i _ => 9 - (intOf i).toNat)
        case atStart => exact ⟨0, r, rfl, by omega, rfl, (show r = r / 10 ^ 0 by rw [Nat.pow_zero, Nat.div_one]), hrow, hov, hb2⟩
        case round =>
          obtain ⟨j, p, rfl, hj, rfl, HP, hown, hov, hbe⟩ := hrel
          clear hrow hb2
          have hbs2 := hbe.size
          have hlen := ld_length (k + j) x
          obtain ⟨B', cb', rfl, _, _, _⟩ := hown.form
          rw [hlen] at hown ⊢
          rcases Nat.eq_or_lt_of_le hj with rfl | hj9
          · have HNX := Lib.hid (show IsN wr v (x / 10 ^ (k + 9)) from isN_of_own hov (by rw [HQE.out, Nat.pow_add, Nat.div_div_eq_div_mul]))
            have HO := Lib.hid hown
            have HBE := Lib.hid hbe
            clear hown hov hbe HP
            go_wp2_with fail
            go_roundw
            case rel => exact ⟨k + 9, HNX.out, HO.out, HBE.out⟩
            case measure => simp [lenOf]; omega
          · obtain ⟨d, hd⟩ : ∃ d, d = p % 10 := ⟨_, rfl⟩
            have hd10 : d < 10 := by omega
            have hp9 : p < 1000000000 := by rw [HP.out]; exact Nat.lt_of_le_of_lt (Nat.div_le_self _ _) hr9
            have ed : (p : Int) % 10 = (d : Int) := by omega
            have HN := Lib.hid (ld_next x k j p d hj9 (by rw [HP.out, HRE.out]) hd)
            have HP2 := Lib.hid (show p / 10 = r / 10 ^ (j + 1) by rw [HP.out, Nat.pow_succ, Nat.div_div_eq_div_mul])
            have hcl : (wr.alloc (.cells #[.int .u8 (48 + (d : Int))] 5)).cell? ⟨wr.heap.size, 0, none⟩ = some (.int .u8 ((48 + d : Nat) : Int)) := by
              rw [Int.natCast_add]; simp
            have HCL := Lib.hid hcl
            clear hcl hd
            go_wp2_with (at_builtin; refine wp_app1B _ rfl _ _ rfl w.heap.size _ (ld (k + j) x) rfl (hown.alloc _) wr.heap.size (48 + d) rfl HCL.out (by omega) (by rw [hlen]; omega) (by simp; omega) ?_)
            intro o2 w3 h2 g2
            have hb3 := (hbe.alloc hbs2 (.cells #[.int .u8 (48 + (d : Int))] 5)).grown g2 (by simp; omega) (fun kk hkk => hown.blockGe kk hkk)
            have hv3 := (hov.alloc (.cells #[.int .u8 (48 + (d : Int))] 5)).grown g2 (own_neB hov hown)
            rw [HN.out] at h2
            have H2 := Lib.hid h2
            clear hown hov hbe h2 g2
            go_wp2_with fail
            go_roundw
            case rel => exact ⟨j + 1, p / 10, by go_num, by omega, by congr 1, HP2.out, H2.out, hv3, hb3⟩
            case measure => simp [intOf]; omega

end Go.Proofs.YtpgiolbnmlbjbaaGreatDoor
