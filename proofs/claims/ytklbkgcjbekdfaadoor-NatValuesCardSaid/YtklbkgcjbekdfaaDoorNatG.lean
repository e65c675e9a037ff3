/- Walks: nat.Low, Bits, Bit, Zeros. -/
import Derived.Test.YtklbkgcjbekdfaaDoorNatF
import Derived.Test.YtklbkgcjbekdfaaDoorBits
import Derived.RegionTactic
import Derived.ChangeAlike
namespace Go.Proofs.YtklbkgcjbekdfaaDoor
open Go.RowKit

set_option maxHeartbeats 400000 in
theorem nbits_any (x : Nat) (va : Value) (w : World) (ha : IsN w va x) (hx : len x ≤ 1099511627776) :
    Calls Tryd.prog 33 #[va] w fun e w' => e = .returned (.int .i64 (blen x : Nat)) ∧ w = w' := by
  obtain ⟨A, n, c, rfl, ha⟩ := ha
  have HC := length_any _ A n c w ha
  rw [trim_dig, ha.len] at HC
  have HL := Lib.hid HC; clear HC
  have hlx : len x = n := ha.len
  rcases Nat.eq_zero_or_pos n with h0 | h0
  · have hz : x = 0 := len_eq_zero (by rw [hlx]; exact h0)
    subst h0; subst hz
    clear hlx
    rw [blen_zero]
    go_enter Tryd.func33, Tryd.ntmps33
    go_wp2_with (go_at_call 39; refine HL.out.mono ?_; rintro e w' ⟨rfl, rfl⟩)
    go_ret
    exact ⟨rfl, rfl⟩
  · obtain ⟨m, rfl⟩ : ∃ m, n = m + 1 := ⟨n - 1, by omega⟩
    obtain ⟨b, off, u, rfl, _, hc, HU, hu⟩ := ha.get (Below.refl _ _) (k := m) (by omega)
    have hup : 0 < u := by
      rcases Nat.eq_zero_or_pos u with h1 | h1
      · exfalso
        have := trim_short (small_dig x) ha.len (by rw [HU.out]; exact h1)
        rw [trim_dig, ha.len] at this
        omega
      · exact h1
    have hb : blen x = 32 * m + blen u := by
      have e := val_take_succ (dig x) m
      rw [List.take_of_length_le (Nat.le_of_eq ha.len), val_dig, HU.out] at e
      have hlo := val_take_lt (dig x) (small_dig x) m
      rw [W32_pow] at e hlo
      have := blen_high hlo hup
      rwa [← e] at this
    have hu5 : blen u ≤ 32 := blen_le hu
    have HB := Lib.hid hb
    have H2 := Lib.hid (len32_any u w hu)
    have hnz : ((m : Int) + 1 == 0) = false := by rw [beq_eq_false_iff_ne]; omega
    have hm40 : m ≤ 1099511627776 := by omega
    clear hb hlx hup
    generalize blen u = bu at *
    go_enter Tryd.func33, Tryd.ntmps33
    go_wp2_with fail
    refine HL.out.mono ?_; rintro e w' ⟨rfl, rfl⟩
    go_wp2_with fail
    refine H2.out.mono ?_; rintro e w' ⟨rfl, rfl⟩
    go_wp2_with fail
    go_ret
    exact ⟨by rw [HB.out]; exact congrArg (fun i => Ending.returned (Value.int .i64 i)) (by omega), rfl⟩

theorem nbit_any (x q l : Nat) (va : Value) (w : World) (ha : IsN w va x) (hl : l < 32) (hk : 32 * q + l ≤ 9223372036854775807) :
    Calls Tryd.prog 35 #[va, .int .i64 ((32 * q + l : Nat) : Int)] w fun e w' => e = .returned (.bool (bitB x (32 * q + l))) ∧ w = w' := by
  obtain ⟨A, n, c, rfl, ha⟩ := ha
  rw [bitB_dig x q l hl]
  have hn63 := ha.le63
  obtain ⟨k, hk'⟩ : ∃ k : Nat, k = 32 * q + l := ⟨_, rfl⟩
  have h1 : (k : Int) / 32 = (q : Int) := by omega
  have h2 : (k : Int) % 32 = (l : Int) := by omega
  rw [← hk'] at hk ⊢
  clear hk'
  rcases Nat.lt_or_ge q n with hqn | hqn
  · obtain ⟨b, off, u, rfl, _, hc, HU, hu⟩ := ha.get (Below.refl _ _) (k := q) hqn
    rw [HU.out]
    refine Calls.mono (R := fun e w' => e = .returned (.bool (bits .and .u32 ((u : Int) / 2 ^ l) 1 == 1)) ∧ w = w') ?_ ?_
    · go_enter Tryd.func35, Tryd.ntmps35
      go_wp2_with fail
      go_ret
      exact ⟨rfl, rfl⟩
    · rintro e w' ⟨rfl, rfl⟩
      refine ⟨?_, rfl⟩
      have hul : u / 2 ^ l < 4294967296 := Nat.lt_of_le_of_lt (Nat.div_le_self _ _) hu
      have e1 : (u : Int) / 2 ^ l = ((u / 2 ^ l : Nat) : Int) := by rw [Int.natCast_ediv, Int.natCast_pow]; rfl
      have e2 : bits .and .u32 ((u / 2 ^ l : Nat) : Int) 1 = ((u / 2 ^ l % 2 : Nat) : Int) := by
        have := u32_and_nat (u / 2 ^ l) 1 hul (by omega)
        rw [Nat.and_one_is_mod] at this
        exact this
      have e3 : (bits .and .u32 ((u : Int) / 2 ^ l) 1 == 1) = decide (u / 2 ^ l % 2 = 1) := by
        rw [e1, e2, Bool.eq_iff_iff, beq_iff_eq, decide_eq_true_iff]
        omega
      rw [e3]
  · rw [nth_of_ge (by rw [ha.len]; exact hqn)]
    have e0 : decide (0 / 2 ^ l % 2 = 1) = false := by simp
    rw [e0]
    go_enter Tryd.func35, Tryd.ntmps35
    go_wp2_with fail
    go_ret
    exact ⟨rfl, rfl⟩
theorem nbit_neg (i : Int) (va : Value) (w : World) {x : Nat} (ha : IsN w va x) (hi : i < 0) :
    Calls Tryd.prog 35 #[va, .int .i64 i] w fun e w' => e = .returned (.bool false) ∧ w = w' := by
  obtain ⟨A, n, c, rfl, ha⟩ := ha
  go_enter Tryd.func35, Tryd.ntmps35
  go_wp2_with fail
  go_ret
  exact ⟨rfl, rfl⟩

def ZerosTo (x j : Nat) : Prop := ∀ i, i < j → nth (dig x) i = 0

theorem nzeros_any (x : Nat) (va : Value) (w : World) (ha : IsN w va x) (hx : len x ≤ 1099511627776) (hT : Tab w) :
    Calls Tryd.prog 34 #[va] w fun e w' => e = .returned (.int .i64 (tz x : Nat)) ∧ w = w' := by
  obtain ⟨A, n, c, rfl, ha⟩ := ha
  have hn40 : n ≤ 1099511627776 := by rw [← ha.len]; exact hx
  have HLX := Lib.hid ha.len
  have HT := Lib.hid hT; clear hT
  refine Calls.mono (R := fun e w' => ∃ i : Int, e = .returned (.int .i64 i) ∧ Hid (i = (tz x : Nat)) ∧ w = w') ?_ (by rintro e w' ⟨i, rfl, h1, h2⟩; exact ⟨by rw [h1.out], h2⟩)
  go_enter Tryd.func34, Tryd.ntmps34
  go_wp2_with fail
  go_loop [7] (fun i => ∃ j : Nat, i = .int .i64 j ∧ j ≤ n ∧ ZerosTo x j) (fun i => n - (intOf i).toNat)
  case atStart => exact ⟨0, rfl, by omega, fun i hi => by omega⟩
  case round =>
    obtain ⟨j, rfl, hj, HZ⟩ := hrel
    rcases Nat.eq_or_lt_of_le hj with rfl | hjn
    · have h0 : x = 0 := by
        rw [← val_dig x]
        exact val_zero_of_nth fun i => by
          rcases Nat.lt_or_ge i j with h | h
          · exact HZ i h
          · exact nth_of_ge (by rw [HLX.out]; exact h)
      have H0 := Lib.hid h0; clear h0
      go_wp2_with fail
      go_ret
      exact ⟨0, rfl, by rw [H0.out, tz_zero]; rfl, rfl⟩
    · obtain ⟨b, off, u, rfl, _, hc, HU, hu⟩ := ha.get (Below.refl _ _) (k := j) hjn
      by_cases hu0 : u = 0
      · subst hu0
        have hxn : ((0 : Int) != 0) = false := rfl
        go_wp2_with fail
        go_round
        case rel =>
          refine ⟨j + 1, by go_num, by omega, fun i hi => ?_⟩
          rcases Nat.lt_or_ge i j with h | h
          · exact HZ i h
          · obtain rfl : i = j := by omega
            exact HU.out
        case measure => simp [intOf] <;> omega
      · have hxn : ((u : Int) != 0) = true := by rw [bne_iff_ne]; omega
        have hxb : ((u : Int) == 0) = false := by rw [beq_eq_false_iff_ne]; omega
        have hE := tz_words HZ HU.out (Nat.pos_of_ne_zero hu0)
        have H2 := Lib.hid (tz32_any u w hu (Nat.pos_of_ne_zero hu0) HT.out)
        have htu : tz u < 32 := by
          obtain ⟨m, hm⟩ := tz_form (Nat.pos_of_ne_zero hu0)
          have h1 : 2 ^ tz u * 1 ≤ u := by
            have : 2 ^ tz u * 1 ≤ 2 ^ tz u * (2 * m + 1) := Nat.mul_le_mul_left _ (by omega)
            omega
          exact (Nat.pow_lt_pow_iff_right (by omega : 1 < 2)).1 (show 2 ^ tz u < 2 ^ 32 by omega)
        have HE := Lib.hid hE
        clear hE hu0
        generalize tz u = tu at *
        go_wp2_with fail
        refine H2.out.mono ?_; rintro e w' ⟨rfl, rfl⟩
        go_wp2_with fail
        go_ret
        exact ⟨_, rfl, by rw [HE.out]; show _ = _; omega, rfl⟩

theorem and_mask {u l : Nat} (hu : u < 4294967296) (hl : l < 32) : bits .and .u32 (u : Int) (((2 : Int) ^ l - 1) % 4294967296) = ((u % 2 ^ l : Nat) : Int) := by
  have h1 : 2 ^ l < 4294967296 := Nat.pow_lt_pow_right (a := 2) (by omega) hl
  have h2 : 0 < 2 ^ l := Nat.pow_pos (by omega)
  have e : ((2 : Int) ^ l - 1) % 4294967296 = ((2 ^ l - 1 : Nat) : Int) := by
    have e1 : (2 : Int) ^ l - 1 = ((2 ^ l - 1 : Nat) : Int) := by rw [Int.natCast_sub h2, Int.natCast_pow]; rfl
    rw [e1]
    omega
  rw [e, u32_and_nat _ _ hu (by omega), Nat.and_two_pow_sub_one_eq_mod]

set_option maxHeartbeats 400000 in
theorem low_any (x q l : Nat) (va : Value) (w : World) (ha : IsN w va x) (hx : len x ≤ 1099511627776) (hl : l < 32) (hn : 32 * q + l ≤ 9223372036854775807) :
    Calls Tryd.prog 29 #[va, .int .i64 ((32 * q + l : Nat) : Int)] w (RetN w (x % 2 ^ (32 * q + l))) := by
  obtain ⟨A, n, c, rfl, ha⟩ := ha
  have hlx : len x = n := ha.len
  have hn40 : n ≤ 1099511627776 := by omega
  obtain ⟨k, hk⟩ : ∃ k : Nat, k = 32 * q + l := ⟨_, rfl⟩
  have h1 : (k : Int) / 32 = (q : Int) := by omega
  have h2 : (k : Int) % 32 = (l : Int) := by omega
  rw [← hk] at hn ⊢
  have HK := Lib.hid hk
  obtain ⟨g, hg⟩ : ∃ g, g = w.heap.size := ⟨_, rfl⟩
  have HG := Lib.hid hg; clear hg
  have hdn : (decide ((k : Int) < 0)) = false := by simp
  rcases Nat.lt_or_ge q n with hqn | hqn
  · clear hk hlx
    go_enter Tryd.func29, Tryd.ntmps29
    go_wp2_with (at_make; refine wp_mk _ rfl _ _ rfl w.heap.size _ _ (q + 1) rfl rfl (by omega) (by omega) (by omega) (Nat.le_refl _) ?_)
    intro w1 o1 g1
    have b1 : Below w.heap.size w w1 := (Below.refl _ _).grown g1 (Nat.le_refl _) (fun k h => by cases h)
    clear g1
    go_wp2_with (with_reducible refine wp_copyAll _ rfl _ _ rfl w _ (q + 1) _ rfl o1 _ n c (dig x) rfl (ha.mono b1) b1 ?_)
    intro w2 o2 b2
    have e0 : over (dig x) (q + 1) (List.replicate (q + 1) 0) n = (dig x).take q ++ [nth (dig x) q] := by
      rw [over_full (by rw [List.length_replicate]; omega), take_succ_nth _ _ (by rw [ha.len]; exact hqn)]
    rw [e0] at o2
    clear e0
    have hql : ((dig x).take q).length = q := by rw [List.length_take, ha.len]; omega
    obtain ⟨u, hu⟩ : ∃ u, nth (dig x) q = u := ⟨_, rfl⟩
    have hu32 : u < 4294967296 := by rw [← hu]; exact (small_dig x).get q
    rw [hu, ← HG.out] at o2
    have hf := o2.free q
    obtain ⟨z, hz, HZ, _⟩ := o2.cell (j := q) (by omega)
    have hzu : z = u := by
      rw [← HZ.out]
      have := nth_mid ((dig x).take q) [] u hql
      rwa [List.append_nil] at this
    rw [hzu] at hz
    have hst := o2.store (j := q) (x := u % 2 ^ l) (Nat.lt_of_le_of_lt (Nat.mod_le _ _) hu32)
    have hse : ((dig x).take q ++ [u]).set q (u % 2 ^ l) = (dig x).take q ++ [u % 2 ^ l] := by
      have := set_mid ((dig x).take q) [] u (u % 2 ^ l) hql
      rwa [List.append_nil, List.append_nil] at this
    rw [hse, ← and_mask hu32 hl] at hst
    have hval : val ((dig x).take q ++ [u % 2 ^ l]) = x % 2 ^ k := by rw [HK.out]; exact low_val hl hu
    have hsm : Small ((dig x).take q ++ [u % 2 ^ l]) := hst.small
    have HT := Lib.hid (show trim ((dig x).take q ++ [u % 2 ^ l]) = dig (x % 2 ^ k) by rw [← hval, dig_val hsm])
    have H := length_any _ _ _ _ _ (hst.sl.mono (Below.refl _ _).drew)
    rw [HT.out] at H
    have hdl : (dig (x % 2 ^ k)).length ≤ q + 1 := by
      rw [← HT.out]
      have := length_trim_le ((dig x).take q ++ [u % 2 ^ l])
      rw [List.length_append, hql] at this
      exact this
    have hcut := hst.cut hdl
    rw [show ((dig x).take q ++ [u % 2 ^ l]).take (dig (x % 2 ^ k)).length = dig (x % 2 ^ k) by rw [← HT.out, trim_take]] at hcut
    have hb2 := b2.setCell (p := ⟨g, q, none⟩) (by rw [HG.out]; exact Nat.le_refl _) (.int .u32 (bits .and .u32 (u : Int) (((2 : Int) ^ l - 1) % 4294967296)))
    obtain ⟨kk, hkk⟩ : ∃ kk, kk = (dig (x % 2 ^ k)).length := ⟨_, rfl⟩
    rw [← hkk] at hdl H
    have HKK := Lib.hid hkk; clear hkk
    have HL2 := Lib.hid H; clear H
    have HHcut := Lib.hid hcut; clear hcut
    clear o2 hst hse hval hsm o1 b1 hu
    rw [← HG.out]
    go_wp2_with fail
    go_region
    go_wp2_with (go_at_call 39; refine HL2.out.mono ?_; rintro e w' ⟨rfl, rfl⟩)
    go_ret
    refine ⟨_, rfl, ?_, hb2.drew⟩
    have := HHcut.out
    rw [← HKK.out] at this
    exact (this.below (Below.refl _ _).drew).base_le (Nat.le_of_eq HG.out.symm)
  · have hz : x % 2 ^ k = x := by
      apply Nat.mod_eq_of_lt
      have := len_le_iff.1 (show len x ≤ q by omega)
      rw [W32_pow] at this
      exact Nat.lt_of_lt_of_le this (Nat.pow_le_pow_right (by omega) (by omega))
    rw [hz]
    have HT := trim_any (dig x) A n c w ha (by omega)
    rw [trim_dig] at HT
    have HTT := Lib.hid HT
    clear hz hk hlx HT
    go_enter Tryd.func29, Tryd.ntmps29
    go_wp2_with fail
    refine HTT.out.mono ?_
    rintro e w' ⟨v, rfl, hv⟩
    go_wp2_with fail
    go_ret
    exact ⟨_, rfl, hv⟩

end Go.Proofs.YtklbkgcjbekdfaaDoor
