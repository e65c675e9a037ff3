/- Walks: Powmod, of the program and of the reference. -/
import Derived.Test.YtckomgehfpiijaaRefQuot
import Derived.Test.YtckomgehfpiijaaProdB
namespace Go.Proofs.Ytckomgehfpiijaa
open Go.RowKit

/-- A power modulo m, from the top down. -/
def pmod (x m e : Nat) : Nat := x ^ e % m
theorem pmod_zero (x m : Nat) : pmod x m 0 = 1 % m := by unfold pmod; rw [Nat.pow_zero]
theorem pmod_even (x m e : Nat) : pmod x m e * pmod x m e % m = pmod x m (2 * e) := by
  unfold pmod
  rw [← Nat.mul_mod, pow_even]
theorem pmod_odd (x m e : Nat) : pmod x m (2 * e) * (x % m) % m = pmod x m (2 * e + 1) := by
  unfold pmod
  rw [← Nat.mul_mod, pow_odd]
theorem pmod_odd' (x m e : Nat) : pmod x m (2 * e) * x % m = pmod x m (2 * e + 1) := by
  rw [← pmod_odd, Nat.mul_mod, Nat.mul_mod (pmod x m (2 * e)) (x % m), Nat.mod_mod]
theorem len_pmod {x m e : Nat} (hm : 0 < m) : len (pmod x m e) ≤ len m := len_mod hm
theorem len_pmod_sq {x m e : Nat} (hm : 0 < m) : len (pmod x m e * pmod x m e) ≤ len m + len m := by
  have := len_mul (pmod x m e) (pmod x m e)
  have := len_pmod (x := x) (e := e) hm
  omega
theorem len_pmod_mul {x m e y : Nat} (hm : 0 < m) : len (pmod x m e * y) ≤ len m + len y := by
  have := len_mul (pmod x m e) y
  have := len_pmod (x := x) (e := e) hm
  omega
def pmQ (x n m : Nat) : Nat := if m = 0 then 0 else x ^ n % m
theorem pmQ_zero (x n : Nat) : pmQ x n 0 = 0 := if_pos rfl
theorem pmQ_pos {x n m : Nat} (h : 0 < m) : pmQ x n m = pmod x m n := if_neg (by omega)

theorem bitI_bit {n k b : Nat} (hb : n / 2 ^ k % 2 = b) : bitI n (k : Int) = decide (b = 1) := by
  rw [bitI_nat]
  unfold bitB
  rw [hb]

theorem powmod_zero (x n : Nat) (va vb vc : Value) (w : World) (hc : IsN w vc 0) :
    Calls Try.prog 25 #[va, vb, vc] w (RetNB w 0 false) := by
  have HN := nbits_any 0 vc w hc (by rw [len_zero]; omega)
  rw [blen_zero] at HN
  have H := Lib.hid HN
  clear hc HN
  go_enter Try.func25, Try.ntmps25
  go_wp2_with fail
  refine H.out.mono ?_
  rintro e w' ⟨rfl, rfl⟩
  go_wp2_with fail
  go_ret2
  exact ⟨_, rfl, by rw [dig_zero]; exact Own.nil _ _, Below.refl _ _⟩

set_option maxHeartbeats 1000000 in
theorem powmod_pos (x n m : Nat) (va vb vc : Value) (w : World) (ha : IsN w va x) (hb : IsN w vb n) (hc : IsN w vc m) (hx : len x ≤ 1000000) (hn : len n ≤ 1000000) (hlm : len m ≤ 1000000) (hm : 0 < m) :
    Calls Try.prog 25 #[va, vb, vc] w (RetNB w (pmod x m n) true) := by
  have HNM := Lib.hid (nbits_any m vc w hc (by omega))
  have hbm := blen_pos hm
  have hbn := blen_le_len n
  have hmz : ((blen m : Int) == 0) = false := by rw [beq_eq_false_iff_ne]; omega
  have hbm2 : blen m ≤ 32000000 := by have := blen_le_len m; omega
  have HR := Lib.hid (fun (z : Nat) v W (h1 : IsN W v z) (hW : Below w.heap.size w W) (hz : len z ≤ 3000000) => rem_any z m v vc W h1 (hc.mono hW) (by omega) (by omega) hm)
  have HNN := Lib.hid (fun W (hW : Below w.heap.size w W) => nbits_any n vb W (hb.mono hW) (by omega))
  have HBI := Lib.hid (fun (k : Nat) (hk : k ≤ 9223372036854775807) W (hW : Below w.heap.size w W) => nbitI_any n (k : Int) vb W (hb.mono hW) (by omega))
  have HLS := Lib.hid (fun e => show len (pmod x m e * pmod x m e) ≤ 3000000 from Nat.le_trans (len_pmod_sq hm) (by omega))
  have HLM := Lib.hid (fun e => show len (pmod x m e * (x % m)) ≤ 3000000 from Nat.le_trans (len_pmod_mul hm) (by have := len_mod (x := x) hm; omega))
  have HLP := Lib.hid (fun e => show len (pmod x m e) ≤ 1000000 from Nat.le_trans (len_pmod hm) hlm)
  have hlr : len (x % m) ≤ 1000000 := Nat.le_trans (len_mod hm) hlm
  have HTS := Lib.hid (top_start n)
  have i1 := ha
  obtain ⟨A, na, ca, rfl, _⟩ := ha
  obtain ⟨B, nb, cb, rfl, _⟩ := hb
  obtain ⟨C, nc, cc, rfl, _⟩ := hc
  generalize blen m = bm at *
  generalize hbl : blen n = bn at *
  have HBL := Lib.hid hbl
  clear hbl
  go_enter Try.func25, Try.ntmps25
  go_wp2_with fail
  refine HNM.out.mono ?_
  rintro e w' ⟨rfl, rfl⟩
  have H1 := Lib.hid (HR.out x _ w i1 (Below.refl _ _) (by omega))
  go_wp2_with fail
  refine H1.out.mono ?_
  rintro e w1 ⟨v1, rfl, o1⟩
  clear H1 i1 HNM
  go_wp2_with fail
  refine (of_any 1 w1 (by omega)).mono ?_
  rintro e w2 ⟨v2, rfl, o2⟩
  have hb2 := o1.below.trans (o2.below.mono o1.below.size)
  have H2 := HR.out 1 v2 w2 o2.isN hb2 (Nat.le_trans (len_le1 (by omega)) (by omega))
  rw [← pmod_zero x m] at H2
  have H3 := Lib.hid H2
  go_wp2_with fail
  refine H3.out.mono ?_
  rintro e w3 ⟨v3, rfl, o3⟩
  have hb3 := hb2.trans (o3.below.mono hb2.size)
  have ix := (o1.isN.mono o2.below).mono o3.below
  have ow3 := o3.own.base_le hb2.size
  clear H2 H3 o1 o2 o3 hb2
  go_wp2_with fail
  refine (HNN.out w3 hb3).mono ?_
  rintro e w' ⟨rfl, rfl⟩
  clear HNN
  go_wp2_with fail
  go_loopw [9, 10] (fun p i wr => ∃ t : Int, i = .int .i64 t ∧ -1 ≤ t ∧ t < 32000000 ∧ Own wr w.heap.size p (dig (pmod x m (top n t))) ∧ Below w3.heap.size w3 wr) (fun _ i _ => (intOf i + 1).toNat)
  case atStart => exact ⟨_, rfl, by omega, by omega, by rw [HTS.out]; exact ow3, Below.refl _ _⟩
  case round =>
    obtain ⟨t, rfl, h1, h2, hown, hbe⟩ := hrel
    clear ow3 HTS
    have hbw := hb3.trans (hbe.mono hb3.size)
    by_cases ht : t = -1
    · subst ht
      rw [top_end] at hown
      go_wp2_with fail
      go_ret2
      exact ⟨_, rfl, hown, hbw⟩
    · obtain ⟨k, rfl⟩ : ∃ k : Nat, t = (k : Int) := ⟨t.toNat, by omega⟩
      clear ht
      have hip := isN_of_own hown rfl
      have hSQ := Lib.hid (square_any (pmod x m (top n k)) _ wr hip (Nat.le_trans (HLP.out _) (by omega)))
      obtain ⟨b, hb⟩ : ∃ b, n / 2 ^ k % 2 = b := ⟨_, rfl⟩
      have hst := top_step n k hb
      have hb2 : b < 2 := by omega
      have hbi := bitI_bit hb
      have HST := Lib.hid hst
      have HBW := Lib.hid (fun W (hW : Below w.heap.size w W) => by have := HBI.out k (by omega) W hW; rwa [hbi] at this)
      have HEV := Lib.hid (pmod_even x m (top n k))
      have HOD := Lib.hid (pmod_odd x m (top n k))
      clear hb hst hbi hip hown
      go_wp2_with fail
      refine hSQ.out.mono ?_
      rintro e w4 ⟨v4, rfl, o4⟩
      have hbw4 := hbw.trans (o4.below.mono hbw.size)
      have H4 := HR.out _ v4 w4 o4.isN hbw4 (HLS.out _)
      rw [HEV.out] at H4
      have H5 := Lib.hid H4
      clear H4 hSQ
      go_wp2_with fail
      refine H5.out.mono ?_
      rintro e w5 ⟨v5, rfl, o5⟩
      have hbw5 := hbw4.trans (o5.below.mono hbw4.size)
      have hbe5 := (hbe.trans (o4.below.mono hbe.size)).trans (o5.below.mono (Nat.le_trans hbe.size o4.below.size))
      have HB5 := HBW.out w5 hbw5
      rcases (show b = 0 ∨ b = 1 by omega) with rfl | rfl
      · have HB6 := Lib.hid HB5
        clear HB5 H5
        go_wp2_with fail
        refine HB6.out.mono ?_
        rintro e w' ⟨rfl, rfl⟩
        go_wp2_with fail
        go_roundw
        case rel => exact ⟨(k : Int) - 1, by go_num, by omega, by omega, by rw [HST.out, Nat.add_zero]; exact o5.own.base_le hbw4.size, hbe5⟩
        case measure => simp [intOf] <;> omega
      · have HB6 := Lib.hid HB5
        have HMU := Lib.hid (mul_any _ (x % m) v5 v1 w5 o5.isN (ix.mono hbe5) (Nat.le_trans (HLP.out _) (by omega)) (by omega))
        clear HB5 H5
        go_wp2_with fail
        refine HB6.out.mono ?_
        rintro e w' ⟨rfl, rfl⟩
        go_wp2_with fail
        refine HMU.out.mono ?_
        rintro e w6 ⟨v6, rfl, o6⟩
        have hbw6 := hbw5.trans (o6.below.mono hbw5.size)
        have H6 := HR.out _ v6 w6 o6.isN hbw6 (HLM.out _)
        rw [HOD.out] at H6
        have H7 := Lib.hid H6
        clear H6 HMU HB6
        go_wp2_with fail
        refine H7.out.mono ?_
        rintro e w7 ⟨v7, rfl, o7⟩
        go_wp2_with fail
        go_roundw
        case rel => exact ⟨(k : Int) - 1, by go_num, by omega, by omega, by rw [HST.out]; exact o7.own.base_le hbw6.size, (hbe5.trans (o6.below.mono hbe5.size)).trans (o7.below.mono (Nat.le_trans hbe5.size o6.below.size))⟩
        case measure => simp [intOf] <;> omega

theorem rpowmod_zero (x n : Nat) (va vb vc : Value) (w : World) (hc : IsN w vc 0) :
    Calls Try.prog 26 #[va, vb, vc] w (RetNB w 0 false) := by
  obtain ⟨C, nc, cc, rfl, hc⟩ := hc
  have hl := hc.len
  rw [dig_zero] at hl
  obtain rfl : nc = 0 := hl.symm
  clear hl hc
  go_enter Try.func26, Try.ntmps26
  go_wp2_with fail
  go_ret2
  exact ⟨_, rfl, by rw [dig_zero]; exact Own.nil _ _, Below.refl _ _⟩

set_option maxHeartbeats 1000000 in
theorem rpowmod_pos (x n m : Nat) (va vb vc : Value) (w : World) (ha : IsN w va x) (hb : IsN w vb n) (hc : IsN w vc m) (hx : len x ≤ 1000000) (hn : len n ≤ 1000000) (hlm : len m ≤ 1000000) (hm : 0 < m) :
    Calls Try.prog 26 #[va, vb, vc] w (RetNB w (pmod x m n) true) := by
  have hyl := len_pos hm
  have hbn := blen_le_len n
  have HR := Lib.hid (fun (z : Nat) v W (h1 : IsN W v z) (hW : Below w.heap.size w W) (hz : len z ≤ 3000000) => rdivmod_any z m v vc W h1 (hc.mono hW) (by omega) (by omega) hm)
  have HNN := Lib.hid (fun W (hW : Below w.heap.size w W) => rbits_any n vb W (hb.mono hW) (by omega))
  have HBI := Lib.hid (fun (k : Nat) (hk : k ≤ 9223372036854775807) W (hW : Below w.heap.size w W) => rbit_any n (k : Int) vb W (hb.mono hW) (by omega))
  have HLS := Lib.hid (fun e => show len (pmod x m e * pmod x m e) ≤ 3000000 from Nat.le_trans (len_pmod_sq hm) (by omega))
  have HLM := Lib.hid (fun e => show len (pmod x m e * x) ≤ 3000000 from Nat.le_trans (len_pmod_mul hm) (by omega))
  have HLP := Lib.hid (fun e => show len (pmod x m e) ≤ 1000000 from Nat.le_trans (len_pmod hm) hlm)
  have HTS := Lib.hid (top_start n)
  have ix := ha
  obtain ⟨A, na, ca, rfl, _⟩ := ha
  obtain ⟨B, nb, cb, rfl, _⟩ := hb
  obtain ⟨C, nc, cc, rfl, hc⟩ := hc
  have hnc : len m = nc := hc.len
  have hmz : ((nc : Int) == 0) = false := by rw [beq_eq_false_iff_ne]; omega
  generalize hbl : blen n = bn at *
  have HBL := Lib.hid hbl
  clear hbl hc hnc
  go_enter Try.func26, Try.ntmps26
  go_wp2_with fail
  refine (rof_any 1 w (by omega)).mono ?_
  rintro e w2 ⟨v2, rfl, o2⟩
  have H2 := HR.out 1 v2 w2 o2.isN o2.below (Nat.le_trans (len_le1 (by omega)) (by omega))
  rw [← pmod_zero x m] at H2
  have H3 := Lib.hid H2
  go_wp2_with fail
  refine H3.out.mono ?_
  rintro e w3 ⟨q3, v3, rfl, _, o3, b3⟩
  have hb3 := o2.below.trans (b3.mono o2.below.size)
  have ow3 := o3.base_le o2.below.size
  clear H2 H3 o2 o3 b3
  go_wp2_with fail
  refine (HNN.out w3 hb3).mono ?_
  rintro e w' ⟨rfl, rfl⟩
  clear HNN
  go_wp2_with fail
  go_loopw [9, 11] (fun p i wr => ∃ t : Int, i = .int .i64 t ∧ -1 ≤ t ∧ t < 32000000 ∧ Own wr w.heap.size p (dig (pmod x m (top n t))) ∧ Below w.heap.size w wr) (fun _ i _ => (intOf i + 1).toNat)
  case atStart => exact ⟨_, rfl, by omega, by omega, by rw [HTS.out]; exact ow3, hb3⟩
  case round =>
    obtain ⟨t, rfl, h1, h2, hown, hbw⟩ := hrel
    clear ow3 HTS hb3
    by_cases ht : t = -1
    · subst ht
      rw [top_end] at hown
      go_wp2_with fail
      go_ret2
      exact ⟨_, rfl, hown, hbw⟩
    · obtain ⟨k, rfl⟩ : ∃ k : Nat, t = (k : Int) := ⟨t.toNat, by omega⟩
      clear ht
      have hip := isN_of_own hown rfl
      have hSQ := Lib.hid (rmul_any (pmod x m (top n k)) (pmod x m (top n k)) _ _ wr hip hip (Nat.le_trans (HLP.out _) (by omega)) (Nat.le_trans (HLP.out _) (by omega)))
      obtain ⟨b, hb⟩ : ∃ b, n / 2 ^ k % 2 = b := ⟨_, rfl⟩
      have hst := top_step n k hb
      have hb2 : b < 2 := by omega
      have hbi := bitI_bit hb
      have HST := Lib.hid hst
      have HBW := Lib.hid (fun W (hW : Below w.heap.size w W) => by have := HBI.out k (by omega) W hW; rwa [hbi] at this)
      have HEV := Lib.hid (pmod_even x m (top n k))
      have HOD := Lib.hid (pmod_odd' x m (top n k))
      clear hb hst hbi hip hown
      go_wp2_with fail
      refine hSQ.out.mono ?_
      rintro e w4 ⟨v4, rfl, o4⟩
      have hbw4 := hbw.trans (o4.below.mono hbw.size)
      have H4 := HR.out _ v4 w4 o4.isN hbw4 (HLS.out _)
      rw [HEV.out] at H4
      have H5 := Lib.hid H4
      clear H4 hSQ
      go_wp2_with fail
      refine H5.out.mono ?_
      rintro e w5 ⟨q5, v5, rfl, _, o5, b5⟩
      have hbw5 := hbw4.trans (b5.mono hbw4.size)
      have HB5 := HBW.out w5 hbw5
      rcases (show b = 0 ∨ b = 1 by omega) with rfl | rfl
      · have HB6 := Lib.hid HB5
        clear HB5 H5
        go_wp2_with fail
        refine HB6.out.mono ?_
        rintro e w' ⟨rfl, rfl⟩
        go_wp2_with fail
        go_roundw
        case rel => exact ⟨(k : Int) - 1, by go_num, by omega, by omega, by rw [HST.out, Nat.add_zero]; exact o5.base_le hbw4.size, hbw5⟩
        case measure => simp [intOf] <;> omega
      · have HB6 := Lib.hid HB5
        have HMU := Lib.hid (rmul_any _ x v5 _ w5 (isN_of_own o5 rfl) (ix.mono hbw5) (Nat.le_trans (HLP.out _) (by omega)) (by omega))
        clear HB5 H5
        go_wp2_with fail
        refine HB6.out.mono ?_
        rintro e w' ⟨rfl, rfl⟩
        go_wp2_with fail
        refine HMU.out.mono ?_
        rintro e w6 ⟨v6, rfl, o6⟩
        have hbw6 := hbw5.trans (o6.below.mono hbw5.size)
        have H6 := HR.out _ v6 w6 o6.isN hbw6 (HLM.out _)
        rw [HOD.out] at H6
        have H7 := Lib.hid H6
        clear H6 HMU HB6
        go_wp2_with fail
        refine H7.out.mono ?_
        rintro e w7 ⟨q7, v7, rfl, _, o7, b7⟩
        go_wp2_with fail
        go_roundw
        case rel => exact ⟨(k : Int) - 1, by go_num, by omega, by omega, by rw [HST.out]; exact o7.base_le hbw6.size, hbw6.trans (b7.mono hbw6.size)⟩
        case measure => simp [intOf] <;> omega

end Go.Proofs.Ytckomgehfpiijaa
