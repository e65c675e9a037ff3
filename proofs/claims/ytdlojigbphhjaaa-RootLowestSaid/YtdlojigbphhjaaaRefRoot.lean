/- Walks: the reference's root, Sqrt, Square, Gcd. -/
import Derived.Test.YtdlojigbphhjaaaRootC
import Derived.Test.YtdlojigbphhjaaaRefQuot
namespace Go.Proofs.Ytdlojigbphhjaaa
open Go.RowKit

/-- A natural that may lie in an argument's memory. -/
def RetIs (w : World) (x : Nat) (e : Ending) (w' : World) : Prop := ∃ v, e = .returned v ∧ IsN w' v x ∧ Below w.heap.size w w'
theorem len_rt_step {a r j : Nat} (hla : len a ≤ 10000) (hr : r ≤ a) (hj : j ≤ 320000) : len (r + 2 ^ j) ≤ 400000 := by
  have h1 := len_mono hr
  have h2 := len_two_pow j
  have h3 := len_add r (2 ^ j)
  omega

set_option maxHeartbeats 1000000 in
theorem rroot_any (a k : Nat) (va : Value) (w : World) (ha : IsN w va a) (hla : len a ≤ 10000) (hk : 1 ≤ k) (hk2 : k ≤ 64) :
    Calls Try.prog 43 #[va, .int .i64 (k : Int)] w (RetN w (rt k a)) := by
  have HB := Lib.hid (rbits_any a va w ha (by omega))
  have hbl := blen_le_len a
  have HS := Lib.hid (rtIs_start a (show 0 < k by omega))
  have hdl : blen a / k ≤ blen a := Nat.div_le_self _ _
  have E : (blen a : Int) / (k : Int) = ((blen a / k : Nat) : Int) := (Int.natCast_ediv _ _).symm
  obtain ⟨D, hD⟩ : ∃ D, blen a / k = D := ⟨_, rfl⟩
  rw [hD] at HS hdl E
  have HC := Lib.hid (fun (s : Nat) v W (h1 : IsN W v s) (hW : Below w.heap.size w W) => rcmpB_any s a v va W h1 (ha.mono hW))
  obtain ⟨A, n, c, rfl, _⟩ := ha
  clear hD
  generalize blen a = bl at *
  go_enter Try.func43, Try.ntmps43
  go_wp2_with fail
  refine HB.out.mono ?_
  rintro e w' ⟨rfl, rfl⟩
  clear HB
  go_wp2_with fail
  go_loopw [5, 6] (fun r i wr => ∃ (t : Int) (j x : Nat), i = .int .i64 t ∧ t = (j : Int) - 1 ∧ j ≤ D + 1 ∧ RtIs k a x j ∧ Own wr w.heap.size r (dig x) ∧ Below w.heap.size w wr) (fun _ i _ => (intOf i + 1).toNat)
  case atStart => exact ⟨_, D + 1, 0, rfl, by omega, by omega, HS.out, by rw [dig_zero]; exact Own.nil _ _, Below.refl _ _⟩
  case round =>
    obtain ⟨t, j, x, rfl, ht, hjD, hI, hown, hbe⟩ := hrel
    clear HS
    have hxa := rtIs_le (by omega) hI
    cases j with
    | zero =>
      obtain rfl : t = -1 := by omega
      have HE := Lib.hid (rtIs_end (by omega) hI)
      clear hI hxa ht
      go_wp2_with fail
      go_ret
      exact ⟨_, rfl, by rw [HE.out]; exact hown, hbe⟩
    | succ j =>
      obtain rfl : t = (j : Int) := by omega
      have hlx := len_mono hxa
      have hl1 := len_two_pow j
      have hl2 := len_rt_step (j := j) hla hxa (by omega)
      have HI := Lib.hid hI
      have ix := isN_of_own hown rfl
      clear ht hxa hI
      go_wp2_with fail
      refine (rof_any 1 wr (by omega)).mono ?_
      rintro e w1 ⟨v1, rfl, o1⟩
      have H1 := rshlK_any 1 j v1 w1 o1.isN (by have : len 1 ≤ 1 := len_le1 (by omega); omega) (by omega)
      rw [Nat.one_mul] at H1
      have HSH := Lib.hid H1
      clear H1
      go_wp2_with fail
      refine HSH.out.mono ?_
      rintro e w2 ⟨v2, rfl, o2⟩
      have b2 := o1.below.trans (o2.below.mono o1.below.size)
      have H2 := Lib.hid (radd_any x (2 ^ j) _ v2 w2 (ix.mono b2) o2.isN (by omega) (by omega))
      clear o1 o2 HSH
      go_wp2_with fail
      refine H2.out.mono ?_
      rintro e w3 ⟨v3, rfl, o3⟩
      have hb2 := hbe.trans (b2.mono hbe.size)
      have hb3 := hb2.trans (o3.below.mono hb2.size)
      have ow3 := o3.own.base_le hb2.size
      have hown3 := (hown.below b2).below o3.below
      have H3 := Lib.hid (rpower_any (x + 2 ^ j) k v3 w3 o3.isN (by omega) (by omega))
      clear hown ix H2 o3
      go_wp2_with fail
      refine H3.out.mono ?_
      rintro e w4 ⟨v4, rfl, o4⟩
      have hb4 := hb3.trans (o4.below.mono hb3.size)
      have H4 := HC.out ((x + 2 ^ j) ^ k) v4 w4 o4.isN hb4
      have ow4 := ow3.below o4.below
      have hown4 := hown3.below o4.below
      clear o4 H3 ow3 hown3
      rcases Nat.lt_or_ge a ((x + 2 ^ j) ^ k) with hlt | hge
      · rw [cmpI_gt (by omega)] at H4
        have H5 := Lib.hid H4
        have HN := Lib.hid (rtIs_no HI.out hlt)
        clear H4 hlt
        go_wp2_with fail
        refine H5.out.mono ?_
        rintro e w5 ⟨rfl, b5⟩
        go_wp2_with fail
        go_roundw
        case rel => exact ⟨(j : Int) - 1, j, x, by go_num, rfl, by omega, HN.out, hown4.below b5, hb4.trans (b5.mono hb4.size)⟩
        case measure => simp [intOf] <;> omega
      · have hcm : cmpI (((x + 2 ^ j) ^ k : Nat) : Int) (a : Int) ≤ 0 := by
          unfold cmpI
          split
          · omega
          · rw [if_neg (by omega)]; omega
        have HY := Lib.hid (rtIs_yes HI.out hge)
        generalize cmpI (((x + 2 ^ j) ^ k : Nat) : Int) (a : Int) = cc at *
        have H5 := Lib.hid H4
        clear H4 hge
        go_wp2_with fail
        refine H5.out.mono ?_
        rintro e w5 ⟨rfl, b5⟩
        go_wp2_with fail
        go_roundw
        case rel => exact ⟨(j : Int) - 1, j, x + 2 ^ j, by go_num, rfl, by omega, HY.out, ow4.below b5, hb4.trans (b5.mono hb4.size)⟩
        case measure => simp [intOf] <;> omega

set_option maxHeartbeats 400000 in
theorem rsqrt_any (a : Nat) (va : Value) (w : World) (ha : IsN w va a) (hla : len a ≤ 10000) :
    Calls Try.prog 33 #[va] w (Ret2 w (rt 2 a) (a - rt 2 a * rt 2 a)) := by
  have HR := Lib.hid (rroot_any a 2 va w ha hla (by omega) (by omega))
  have hle := rt_le a (show 0 < 2 by omega)
  have hlr := len_mono (rt_self (k := 2) a (by omega))
  rw [Nat.pow_two] at hle
  have HS := Lib.hid (fun v W (h1 : IsN W v (rt 2 a * rt 2 a)) (hW : Below w.heap.size w W) => rless_any a (rt 2 a * rt 2 a) va v W (ha.mono hW) h1 (by omega) hle)
  obtain ⟨A, n, c, rfl, _⟩ := ha
  clear hle
  generalize rt 2 a = r at *
  go_enter Try.func33, Try.ntmps33
  go_wp2_with fail
  refine HR.out.mono ?_
  rintro e w1 ⟨v1, rfl, o1⟩
  go_wp2_with fail
  refine (rmul_any r r v1 v1 w1 o1.isN o1.isN (by omega) (by omega)).mono ?_
  rintro e w2 ⟨v2, rfl, o2⟩
  have hb2 := o1.below.trans (o2.below.mono o1.below.size)
  have H2 := Lib.hid (HS.out v2 w2 o2.isN hb2)
  have ow := o1.own.below o2.below
  clear o1 o2
  go_wp2_with fail
  refine H2.out.mono ?_
  rintro e w3 ⟨v3, rfl, o3⟩
  go_wp2_with fail
  go_ret2
  exact ⟨v1, v3, rfl, ow.below o3.below, o3.own.base_le hb2.size, hb2.trans (o3.below.mono hb2.size)⟩

set_option maxHeartbeats 400000 in
theorem rsquareRoot_any (a : Nat) (va : Value) (w : World) (ha : IsN w va a) (hla : len a ≤ 10000) :
    Calls Try.prog 19 #[va] w (RetNB w (sqQ a) (sqB a)) := by
  have HR := Lib.hid (rsqrt_any a va w ha hla)
  have hle := rt_le a (show 0 < 2 by omega)
  rw [Nat.pow_two] at hle
  unfold sqQ sqB
  by_cases hs : rt 2 a * rt 2 a = a
  · rw [if_pos hs, decide_eq_true hs]
    rw [hs, Nat.sub_self] at HR
    clear hs hle
    generalize rt 2 a = r at *
    go_enter Try.func19, Try.ntmps19
    go_wp2_with fail
    refine HR.out.mono ?_
    rintro e w1 ⟨v1, v2, rfl, o1, o2, b⟩
    obtain ⟨A, c, rfl, _, _⟩ := o2.form
    rw [dig_zero]
    clear o2
    go_wp2_with fail
    go_ret2
    exact ⟨v1, rfl, o1, b⟩
  · rw [if_neg hs, decide_eq_false hs]
    have hl := len_pos (x := a - rt 2 a * rt 2 a) (by omega)
    clear hs hle
    generalize a - rt 2 a * rt 2 a = z at *
    go_enter Try.func19, Try.ntmps19
    go_wp2_with fail
    refine HR.out.mono ?_
    rintro e w1 ⟨v1, v2, rfl, o1, o2, b⟩
    obtain ⟨A, c, rfl, _, _⟩ := o2.form
    rw [length_dig]
    clear o2
    generalize len z = k at *
    go_wp2_with fail
    go_ret2
    exact ⟨_, rfl, by rw [dig_zero]; exact Own.nil _ _, b⟩

set_option maxHeartbeats 1000000 in
theorem rgcd_any (x y : Nat) (va vb : Value) (w : World) (ha : IsN w va x) (hb : IsN w vb y) (hx : len x ≤ 274877906944) (hy : len y ≤ 274877906944) :
    Calls Try.prog 24 #[va, vb] w (RetIs w (Nat.gcd x y)) := by
  have i1 := ha
  have i2 := hb
  obtain ⟨A, n, c, rfl, _⟩ := ha
  obtain ⟨B, m, d, rfl, _⟩ := hb
  obtain ⟨G, hG⟩ : ∃ G, Nat.gcd x y = G := ⟨_, rfl⟩
  rw [hG]
  have HG := Lib.hid hG
  clear hG
  go_enter Try.func24, Try.ntmps24
  go_wp2_with fail
  go_loopw [0, 1] (fun a b wr => ∃ p q : Nat, IsN wr a p ∧ IsN wr b q ∧ Nat.gcd p q = G ∧ len p ≤ 274877906944 ∧ len q ≤ 274877906944 ∧ Below w.heap.size w wr) (fun _ b wr => numOf wr b)
  case atStart => exact ⟨x, y, i1, i2, HG.out, hx, hy, Below.refl _ _⟩
  case round =>
    obtain ⟨p, q, hp, hq, hpq, hlp, hlq, hbe⟩ := hrel
    clear i1 i2 HG
    have hnum := hq.num
    have HPQ := Lib.hid hpq
    clear hpq
    have j1 := hp
    have j2 := hq
    obtain ⟨A1, n1, c1, rfl, _⟩ := hp
    obtain ⟨B1, m1, d1, rfl, hs⟩ := hq
    have hm1 : len q = m1 := hs.len
    clear hs
    rcases Nat.eq_zero_or_pos q with rfl | hqp
    · rw [len_zero] at *
      subst hm1
      go_wp2_with fail
      go_ret
      exact ⟨_, rfl, by rw [← HPQ.out, Nat.gcd_zero_right]; exact j1, hbe⟩
    · have hlq0 := len_pos hqp
      have HD := Lib.hid (rdivmod_any p q _ _ wr j1 j2 (by omega) (by omega) hqp)
      have hlr := len_mod (x := p) hqp
      have HLT := Lib.hid (Nat.mod_lt p hqp)
      have HPQ2 := Lib.hid ((gcd_step p q).trans HPQ.out)
      obtain ⟨r, hr⟩ : ∃ r, p % q = r := ⟨_, rfl⟩
      rw [hr] at HD hlr HLT HPQ2
      have hm1p : 0 < m1 := by omega
      have hlq2 : len q ≤ 274877906944 := hlq
      clear hr hm1
      go_wp2_with fail
      refine HD.out.mono ?_
      rintro e w3 ⟨vq, vr, rfl, oq, or, b3⟩
      have ir := isN_of_own (x := r) or rfl
      clear oq or HD
      go_wp2_with fail
      go_roundw
      case rel => exact ⟨q, r, j2.mono b3, ir, HPQ2.out, hlq2, by omega, hbe.trans (b3.mono hbe.size)⟩
      case measure =>
        rw [hnum, ir.num]
        exact HLT.out

end Go.Proofs.Ytdlojigbphhjaaa
