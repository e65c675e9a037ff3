/- Walks: root's step, newton, Root, Sqrt, Square. -/
import Derived.Test.YtdlojigbphhjaaaRootMath
import Derived.Test.YtdlojigbphhjaaaQuotE
import Derived.Test.YtdlojigbphhjaaaProdB
namespace Go.Proofs.Ytdlojigbphhjaaa
open Go.RowKit

theorem IsN.uniq {w : World} {v : Value} {x y : Nat} (h1 : IsN w v x) (h2 : IsN w v y) : x = y := by
  obtain ⟨A, n, c, e1, s1⟩ := h1
  obtain ⟨A', n', c', e2, s2⟩ := h2
  rw [e1] at e2
  injection e2 with e3 e4 e5
  subst e3; subst e4; subst e5
  refine dig_inj (eq_of_nth (s1.len.trans s2.len.symm) fun j => ?_)
  rcases Nat.lt_or_ge j n with hj | hj
  · obtain ⟨b, off, hA, _, hc⟩ := s1.place (by omega)
    obtain ⟨b', off', hA', _, hc'⟩ := s2.place (by omega)
    rw [hA] at hA'
    injection hA' with hA'
    injection hA' with f1 f2
    subst f1; subst f2
    have h3 := hc j hj
    rw [hc' j hj] at h3
    injection h3 with h3
    injection h3 with h3 h4
    exact (Int.ofNat.inj h4).symm
  · rw [nth_of_ge (by rw [s1.len]; exact hj), nth_of_ge (by rw [s2.len]; exact hj)]
/-- The number that a value stands for; 0 if it stands for none. -/
noncomputable def numOf (w : World) (v : Value) : Nat := open Classical in if h : ∃ x, IsN w v x then h.choose else 0
theorem IsN.num {w : World} {v : Value} {x : Nat} (h : IsN w v x) : numOf w v = x := by
  unfold numOf
  have hx : ∃ x, IsN w v x := ⟨x, h⟩
  rw [dif_pos hx]
  exact hx.choose_spec.uniq h

theorem smallI_any (x m : Nat) (i : Int) (hi : i = (m : Int)) (va : Value) (w : World) (ha : IsN w va x) (hx : len x ≤ 1099511627776) (hm : m < 4294967296) :
    Calls Try.prog 60 #[va, .int .u32 i, .int .u32 0] w (RetN w (x * m)) := by
  subst hi
  exact small_any x m 0 va w ha hx hm (by omega)
theorem qsmallI_any (x d : Nat) (i : Int) (hi : i = (d : Int)) (va : Value) (w : World) (ha : IsN w va x) (hx : len x ≤ 1099511627776) (hd : 0 < d) (hd2 : d < 4294967296) :
    Calls Try.prog 50 #[va, .int .u32 i] w (RetQS w (x / d) (x % d)) := by
  subst hi
  exact qsmall_any x d va w ha hx hd hd2

set_option maxHeartbeats 400000 in
theorem step_any (a r j : Nat) (va vr : Value) (w : World) (ha : IsN w va a) (hr : IsN w vr r) (hla : len a ≤ 1000000) (hlr : len r ≤ 1000000) (hp : 0 < r) (hj : 1 ≤ j) (hj2 : j ≤ 63) :
    Calls Try.prog 49 #[va, vr, .int .i64 ((j : Int) + 1)] w (RetN w (stp (j + 1) a r)) := by
  have hpp : 0 < r ^ j := Nat.pow_pos hp
  have hlp : len (r ^ j) ≤ 64000000 := by
    have h1 := len_pow r j
    have h2 : j * len r ≤ 63 * 1000000 := Nat.mul_le_mul hj2 hlr
    omega
  have hlq := len_div a (r ^ j)
  have hlm := len_small r j 0 (by omega) (by omega)
  have HST := Lib.hid (show stp (j + 1) a r = (r * j + a / r ^ j) / (j + 1) from rfl)
  have HP := Lib.hid (power_any r j vr w hr (by omega) (by omega))
  have HD := Lib.hid (fun v W (h1 : IsN W v (r ^ j)) (hW : Below w.heap.size w W) => divmod_any a (r ^ j) va v W (ha.mono hW) h1 (by omega) (by omega) hpp)
  have HS := Lib.hid (fun i hi W (hW : Below w.heap.size w W) => smallI_any r j i hi vr W (hr.mono hW) (by omega) (by omega))
  obtain ⟨q, hq⟩ : ∃ q, a / r ^ j = q := ⟨_, rfl⟩
  rw [hq] at hlq HD HST
  obtain ⟨z, hz⟩ : ∃ z, a % r ^ j = z := ⟨_, rfl⟩
  rw [hz] at HD
  rw [Nat.add_zero] at hlm
  have hls := len_add (r * j) q
  obtain ⟨A, n, c, rfl, _⟩ := ha
  obtain ⟨B, m, d, rfl, _⟩ := hr
  clear hq hz hpp
  rw [HST.out]
  go_enter Try.func49, Try.ntmps49
  go_wp2_with fail
  refine HP.out.mono ?_
  rintro e w1 ⟨v1, rfl, o1⟩
  have H1 := Lib.hid (HD.out v1 w1 o1.isN o1.below)
  go_wp2_with fail
  refine H1.out.mono ?_
  rintro e w2 ⟨vq, vz, rfl, oq, oz, b2⟩
  have hb2 := o1.below.trans (b2.mono o1.below.size)
  have iq := isN_of_own (x := q) oq rfl
  clear o1 oz oq b2 H1
  go_wp2_with fail
  refine (HS.out _ (by omega) w2 hb2).mono ?_
  rintro e w3 ⟨v3, rfl, o3⟩
  have hb3 := hb2.trans (o3.below.mono hb2.size)
  have H3 := Lib.hid (add_any (r * j) q v3 vq w3 o3.isN (iq.mono o3.below) (by omega) (by omega))
  go_wp2_with fail
  refine H3.out.mono ?_
  rintro e w4 ⟨v4, rfl, o4⟩
  have hb4 := hb3.trans (o4.below.mono hb3.size)
  have i4 := o4.isN
  clear o3 o4 H3
  go_wp2_with fail
  refine (qsmallI_any (r * j + q) (j + 1) _ (by omega) v4 w4 i4 (by omega) (by omega) (by omega)).mono ?_
  rintro e w5 ⟨v5, rfl, o5⟩
  go_wp2_with fail
  go_ret
  exact ⟨v5, rfl, o5.own.base_le hb4.size, hb4.trans (o5.below.mono hb4.size)⟩
theorem stepK_any (a r k : Nat) (va vr : Value) (w : World) (ha : IsN w va a) (hr : IsN w vr r) (hla : len a ≤ 1000000) (hlr : len r ≤ 1000000) (hp : 0 < r) (hk : 2 ≤ k) (hk2 : k ≤ 64) :
    Calls Try.prog 49 #[va, vr, .int .i64 (k : Int)] w (RetN w (stp k a r)) := by
  obtain ⟨j, rfl⟩ : ∃ j, k = j + 1 := ⟨k - 1, by omega⟩
  exact step_any a r j va vr w ha hr hla hlr hp (by omega) (by omega)

end Go.Proofs.Ytdlojigbphhjaaa
