/- Walks: root's newton, Root, Sqrt, Square. -/
import Derived.Test.YtdlojigbphhjaaaRootA
namespace Go.Proofs.Ytdlojigbphhjaaa
open Go.RowKit

set_option maxHeartbeats 1000000 in
theorem newton_any (k : Nat) (hk : 2 ≤ k) (hk2 : k ≤ 64) : ∀ a, 0 < a → len a ≤ 10000 → ∀ (va : Value) (w : World), IsN w va a →
    Calls Try.prog 36 #[va, .int .i64 (k : Int)] w (RetN w (rt k a)) := by
  intro a
  induction a using Nat.strongRecOn with
  | ind a IH =>
    intro ha hla va w hia
    have hb1 := blen_le_len a
    have hb2 := blen_pos ha
    have HB := Lib.hid (nbits_any a va w hia (by omega))
    have hD := dgs_pos (a := a) (k := k) (by omega) ha
    have hDle := dgs_le a (k := k) (by omega)
    have HONE := Lib.hid (fun h => rt_small (by omega) ha (dgs_one (a := a) (k := k) (by omega) h))
    have HPL := Lib.hid (fun p h2 hp => dgs_places (a := a) (k := k) (p := p) (by omega) h2 hp)
    have hcp := fun n h => cut_pos (a := a) (n := n) h ha
    have HSTA := Lib.hid (fun p => rt_start (k := k) a p (by omega))
    have E : ((blen a : Int) + k - 1) / (k : Int) = (((blen a + k - 1) / k : Nat) : Int) := by
      rw [Int.natCast_ediv]; congr 1; omega
    obtain ⟨D, hDD⟩ : ∃ D, (blen a + k - 1) / k = D := ⟨_, rfl⟩
    rw [hDD] at hD hDle HONE HPL E
    have HI := Lib.hid (fun W (hW : Below w.heap.size w W) => hia.mono hW)
    obtain ⟨A, n, c, rfl, _⟩ := hia
    clear hDD
    generalize blen a = bl at *
    by_cases h1 : D = 1
    · subst h1
      rw [HONE.out rfl]
      clear HPL hD hDle IH HI
      go_enter Try.func36, Try.ntmps36
      go_wp2_with fail
      refine HB.out.mono ?_
      rintro e w' ⟨rfl, rfl⟩
      go_wp2_with fail
      refine (of_any 1 w (by omega)).mono ?_
      rintro e w1 ⟨v1, rfl, o1⟩
      go_wp2_with fail
      go_ret
      exact ⟨v1, rfl, o1⟩
    · have hne : ((D : Int) == 1) = false := by rw [beq_eq_false_iff_ne]; omega
      obtain ⟨P, hP⟩ : ∃ P, D / 2 = P := ⟨_, rfl⟩
      have EP : (D : Int) / 2 = (P : Int) := by omega
      have hP1 : 1 ≤ P := by omega
      have hP2 : P ≤ 160000 := by omega
      have hkp := HPL.out P (by omega) (by omega)
      have hcp2 := hcp (k * P) hkp
      have hst := HSTA.out P
      have hM1 : 1 ≤ k * P := Nat.mul_le_mul (show 1 ≤ k by omega) hP1
      obtain ⟨M, hM⟩ : ∃ M, k * P = M := ⟨_, rfl⟩
      have EM : (k : Int) * (P : Int) = (M : Int) := by rw [← Int.natCast_mul, hM]
      have EMin : min (P : Int) 1048576 = (P : Int) := by omega
      rw [hM] at hcp2 hst hM1 hkp
      have hlt := cut_lt hM1 ha
      have hlb := len_mono (Nat.le_of_lt hlt)
      have HIH := Lib.hid (IH (a / 2 ^ M) hlt hcp2 (by omega))
      have hlu := len_mono (rt_self (k := k) (a / 2 ^ M) (by omega))
      have HSH := Lib.hid (shrK_any a M _ w (HI.out w (Below.refl _ _)) (by omega) (by omega))
      obtain ⟨b, hb⟩ : ∃ b, a / 2 ^ M = b := ⟨_, rfl⟩
      rw [hb] at HSH HIH hst hlb hlu
      obtain ⟨u, hu⟩ : ∃ u, rt k b = u := ⟨_, rfl⟩
      rw [hu] at HIH hst hlu
      have hl1 := len_add u 1
      have hl11 : len 1 ≤ 1 := len_le1 (by omega)
      have hl2 := len_shl (u + 1) P
      have hrp := rt_pos (k := k) (by omega) ha
      have HNX := Lib.hid (fun (x : Nat) v W (hx : rt k a ≤ x) (hl : len x ≤ 400000) (h1 : IsN W v x) (hW : Below w.heap.size w W) => stepK_any a x k _ v W (HI.out W hW) h1 (by omega) (by omega) (by omega) hk hk2)
      have HEND := Lib.hid (fun (x : Nat) (hx : rt k a ≤ x) (h : x ≤ stp k a x) => rt_end (k := k) (by omega) (by omega) hx h)
      have HGE := Lib.hid (fun (x : Nat) (hx : rt k a ≤ x) => rt_stp (k := k) (a := a) (r := x) (by omega) (by omega))
      have HST := Lib.hid hst
      clear HPL hDle hP hcp hcp2 hst hb hu hM1 hM hlt hrp IH HONE
      generalize rt k a = R at *
      go_enter Try.func36, Try.ntmps36
      go_wp2_with fail
      refine HB.out.mono ?_
      rintro e w' ⟨rfl, rfl⟩
      go_wp2_with fail
      refine HSH.out.mono ?_
      rintro e w1 ⟨v1, rfl, o1⟩
      go_wp2_with fail
      refine (HIH.out v1 w1 o1.isN).mono ?_
      rintro e w2 ⟨v2, rfl, o2⟩
      have hb2 := o1.below.trans (o2.below.mono o1.below.size)
      have i2 := o2.isN
      clear o1 o2 HIH HSH HB
      go_wp2_with fail
      refine (of_any 1 w2 (by omega)).mono ?_
      rintro e w3 ⟨v3, rfl, o3⟩
      have hb3 := hb2.trans (o3.below.mono hb2.size)
      have H3 := Lib.hid (add_any u 1 v2 v3 w3 (i2.mono o3.below) o3.isN (by omega) (by omega))
      go_wp2_with fail
      refine H3.out.mono ?_
      rintro e w4 ⟨v4, rfl, o4⟩
      have hb4 := hb3.trans (o4.below.mono hb3.size)
      have i4 := o4.isN
      clear o3 o4 H3 i2 hb2 hb3
      go_wp2_with fail
      refine (shlK_any (u + 1) P v4 w4 i4 (by omega) (by omega)).mono ?_
      rintro e w5 ⟨v5, rfl, o5⟩
      have hb5 := hb4.trans (o5.below.mono hb4.size)
      have ow := o5.own.base_le hb4.size
      clear o5 i4 hb4
      go_wp2_with fail
      go_loopw [8] (fun r wr => ∃ x : Nat, Own wr w.heap.size r (dig x) ∧ R ≤ x ∧ len x ≤ 400000 ∧ Below w.heap.size w wr) (fun r wr => numOf wr r)
      case atStart => exact ⟨_, ow, HST.out, by omega, hb5⟩
      case round =>
        obtain ⟨x, hown, hx, hlx, hbe⟩ := hrel
        clear ow hb5 HST
        have H6 := Lib.hid (HNX.out x _ wr hx hlx (isN_of_own hown rfl) hbe)
        go_wp2_with fail
        refine H6.out.mono ?_
        rintro e w6 ⟨v6, rfl, o6⟩
        have hb6 := hbe.trans (o6.below.mono hbe.size)
        have ow6 := hown.below o6.below
        have on6 := o6.own.base_le hbe.size
        have HC := cmpB_any (stp k a x) x v6 _ w6 o6.isN (isN_of_own ow6 rfl)
        have hge := HGE.out x hx
        have hlen := len_mono (x := stp k a x) (y := x)
        have hend := HEND.out x hx
        have hnum := (isN_of_own hown rfl : IsN wr _ x).num
        clear o6 H6 HNX HEND HGE hown
        obtain ⟨y, hy⟩ : ∃ y, stp k a x = y := ⟨_, rfl⟩
        rw [hy] at HC hge hlen hend on6
        clear hy
        rcases Nat.lt_or_ge y x with hlt | hle
        · rw [cmpI_lt (by omega)] at HC
          have HCC := Lib.hid HC
          clear HC
          go_wp2_with fail
          refine HCC.out.mono ?_
          rintro e w7 ⟨rfl, b7⟩
          go_wp2_with fail
          go_roundw
          case rel => exact ⟨y, on6.below b7, hge, by have := hlen (by omega); omega, hb6.trans (b7.mono hb6.size)⟩
          case measure =>
            rw [hnum, (isN_of_own (on6.below b7) rfl : IsN w7 _ y).num]
            exact hlt
        · have hcm : 0 ≤ cmpI (y : Int) (x : Int) := by
            unfold cmpI; rw [if_neg (by omega)]; split <;> omega
          generalize cmpI (y : Int) (x : Int) = cc at *
          have HCC := Lib.hid HC
          have HE := Lib.hid (hend hle)
          clear HC hend
          go_wp2_with fail
          refine HCC.out.mono ?_
          rintro e w7 ⟨rfl, b7⟩
          go_wp2_with fail
          go_ret
          exact ⟨_, rfl, by rw [HE.out]; exact ow6.below b7, hb6.trans (b7.mono hb6.size)⟩

/-- What the root is, for every order. -/
def rtB (k : Int) : Bool := decide (1 ≤ k ∧ k ≤ 64)
set_option maxHeartbeats 400000 in
theorem root_any (a k : Nat) (va : Value) (w : World) (ha : IsN w va a) (hla : len a ≤ 10000) (hk : 1 ≤ k) (hk2 : k ≤ 64) :
    Calls Try.prog 20 #[va, .int .i64 (k : Int)] w (RetNB w (rt k a) true) := by
  have HT := Lib.hid (trimD_any a va w ha (by omega))
  have HB := Lib.hid (nbits_any a va w ha (by omega))
  have hbl := blen_le_len a
  rcases Nat.eq_or_lt_of_le hk with rfl | hk1
  · rw [rt_one]
    obtain ⟨A, n, c, rfl, _⟩ := ha
    go_enter Try.func20, Try.ntmps20
    go_wp2_with fail
    refine HT.out.mono ?_
    rintro e w1 ⟨v1, rfl, o1⟩
    go_wp2_with fail
    go_ret2
    exact ⟨v1, rfl, o1.own, o1.below⟩
  · have hk1f : ((k : Int) == 1) = false := by rw [beq_eq_false_iff_ne]; omega
    rcases Nat.eq_zero_or_pos a with rfl | hp
    · rw [rt_zero (by omega)]
      rw [blen_zero] at HB
      obtain ⟨A, n, c, rfl, _⟩ := ha
      go_enter Try.func20, Try.ntmps20
      go_wp2_with fail
      refine HB.out.mono ?_
      rintro e w' ⟨rfl, rfl⟩
      go_wp2_with fail
      refine HT.out.mono ?_
      rintro e w1 ⟨v1, rfl, o1⟩
      go_wp2_with fail
      go_ret2
      exact ⟨v1, rfl, o1.own, o1.below⟩
    · have HN := Lib.hid (newton_any k (by omega) hk2 a hp hla va w ha)
      have hbp := blen_pos hp
      have hb0 : ((blen a : Int) == 0) = false := by rw [beq_eq_false_iff_ne]; omega
      obtain ⟨A, n, c, rfl, _⟩ := ha
      generalize blen a = bl at *
      go_enter Try.func20, Try.ntmps20
      go_wp2_with fail
      refine HB.out.mono ?_
      rintro e w' ⟨rfl, rfl⟩
      go_wp2_with fail
      refine HN.out.mono ?_
      rintro e w1 ⟨v1, rfl, o1⟩
      go_wp2_with fail
      go_ret2
      exact ⟨v1, rfl, o1.own, o1.below⟩
theorem root_out (k : Int) (va : Value) (w : World) (h1 : -9223372036854775808 ≤ k) (h2 : k ≤ 9223372036854775807) (hk : k < 1 ∨ 64 < k) :
    Calls Try.prog 20 #[va, .int .i64 k] w fun e w' => e = .returned (.tuple #[.slice none 0 0, .bool false]) ∧ w = w' := by
  rcases hk with hk | hk
  · go_enter Try.func20, Try.ntmps20
    go_wp2_with fail
    go_ret2
    exact ⟨rfl, rfl⟩
  · go_enter Try.func20, Try.ntmps20
    go_wp2_with fail
    go_ret2
    exact ⟨rfl, rfl⟩

/-- Two new naturals. -/
def Ret2 (w : World) (q r : Nat) (e : Ending) (w' : World) : Prop := ∃ vq vr, e = .returned (.tuple #[vq, vr]) ∧ Own w' w.heap.size vq (dig q) ∧ Own w' w.heap.size vr (dig r) ∧ Below w.heap.size w w'
set_option maxHeartbeats 400000 in
theorem sqrt_any (a : Nat) (va : Value) (w : World) (ha : IsN w va a) (hla : len a ≤ 10000) :
    Calls Try.prog 14 #[va] w (Ret2 w (rt 2 a) (a - rt 2 a * rt 2 a)) := by
  have HR := Lib.hid (root_any a 2 va w ha hla (by omega) (by omega))
  have hle := rt_le a (show 0 < 2 by omega)
  have hlr := len_mono (rt_self (k := 2) a (by omega))
  rw [Nat.pow_two] at hle
  have HS := Lib.hid (fun v W (h1 : IsN W v (rt 2 a * rt 2 a)) (hW : Below w.heap.size w W) => subYes_any a (rt 2 a * rt 2 a) va v W (ha.mono hW) h1 (by omega) hle)
  obtain ⟨A, n, c, rfl, _⟩ := ha
  clear hle
  generalize rt 2 a = r at *
  go_enter Try.func14, Try.ntmps14
  go_wp2_with fail
  refine HR.out.mono ?_
  rintro e w1 ⟨v1, rfl, o1⟩
  go_wp2_with fail
  refine (square_any r v1 w1 o1.isN (by omega)).mono ?_
  rintro e w2 ⟨v2, rfl, o2⟩
  have hb2 := o1.below.trans (o2.below.mono o1.below.size)
  have H2 := Lib.hid (HS.out v2 w2 o2.isN hb2)
  have ow := o1.own.below o2.below
  clear o1 o2
  go_wp2_with fail
  refine H2.out.mono ?_
  rintro e w3 ⟨v3, rfl, o3⟩
  go_wp2_with fail
  go_ret2
  exact ⟨v1, v3, rfl, ow.below o3.below, o3.own.base_le hb2.size, hb2.trans (o3.below.mono hb2.size)⟩

/-- Whether a natural is a square; the root then, and 0 if not. -/
def sqB (a : Nat) : Bool := decide (rt 2 a * rt 2 a = a)
def sqQ (a : Nat) : Nat := if rt 2 a * rt 2 a = a then rt 2 a else 0
set_option maxHeartbeats 400000 in
theorem squareRoot_any (a : Nat) (va : Value) (w : World) (ha : IsN w va a) (hla : len a ≤ 10000) :
    Calls Try.prog 18 #[va] w (RetNB w (sqQ a) (sqB a)) := by
  have HR := Lib.hid (sqrt_any a va w ha hla)
  have hle := rt_le a (show 0 < 2 by omega)
  rw [Nat.pow_two] at hle
  unfold sqQ sqB
  by_cases hs : rt 2 a * rt 2 a = a
  · rw [if_pos hs, decide_eq_true hs]
    rw [hs, Nat.sub_self] at HR
    clear hs hle
    generalize rt 2 a = r at *
    go_enter Try.func18, Try.ntmps18
    go_wp2_with fail
    refine HR.out.mono ?_
    rintro e w1 ⟨v1, v2, rfl, o1, o2, b⟩
    obtain ⟨A, c, rfl, _, _⟩ := o2.form
    rw [dig_zero]
    clear o2
    go_wp2_with fail
    go_ret2
    exact ⟨v1, rfl, o1, b⟩
  · rw [if_neg hs, decide_eq_false hs]
    have hl := len_pos (x := a - rt 2 a * rt 2 a) (by omega)
    clear hs hle
    generalize a - rt 2 a * rt 2 a = z at *
    go_enter Try.func18, Try.ntmps18
    go_wp2_with fail
    refine HR.out.mono ?_
    rintro e w1 ⟨v1, v2, rfl, o1, o2, b⟩
    obtain ⟨A, c, rfl, _, _⟩ := o2.form
    rw [length_dig]
    clear o2
    generalize len z = k at *
    go_wp2_with fail
    go_ret2
    exact ⟨_, rfl, by rw [dig_zero]; exact Own.nil _ _, b⟩

end Go.Proofs.Ytdlojigbphhjaaa
