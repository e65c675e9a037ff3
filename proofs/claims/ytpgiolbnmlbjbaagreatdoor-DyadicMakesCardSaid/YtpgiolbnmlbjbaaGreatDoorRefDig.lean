/- The reference's Digits and Format. -/
import Derived.Test.YtpgiolbnmlbjbaaGreatDoorForm
import Derived.Test.YtpgiolbnmlbjbaaGreatDoorBaseP
namespace Go.Proofs.YtpgiolbnmlbjbaaGreatDoor
open Go.RowKit
set_option linter.unusedVariables false
set_option linter.unusedSimpArgs false
set_option maxRecDepth 100000
attribute [local go_sem ↓] Go.wp_at_zero Go.wp_at_succ

theorem decs_extract {d : Nat} (h : d < 10) : (⟨#[48, 49, 50, 51, 52, 53, 54, 55, 56, 57]⟩ : ByteArray).extract d (d + 1) = str [48 + d] := by
  have e : (⟨#[48, 49, 50, 51, 52, 53, 54, 55, 56, 57]⟩ : ByteArray) = str decs := rfl
  rw [e, str_extract, Nat.add_sub_cancel_left]
  have : ∀ d : Nat, d < 10 → (decs.drop d).take 1 = [48 + d] := by decide
  rw [this d h]
theorem cat_one (c : Nat) (l : List Nat) : str [c] ++ str l = str (c :: l) := by rw [str_append]; rfl

set_option maxHeartbeats 1000000 in
theorem rdigits_any (x : Nat) (va : Value) (w : World) (ha : IsN w va x) (hx : len x ≤ 100000) :
    Calls Tryz.prog 122 #[va] w (RetS w (dd x)) := by
  have hrl : (rd x).length ≤ 1000000 := by
    have h1 : x < 10 ^ (10 * len x) := Nat.lt_of_lt_of_le (lt_pow_len x) (pow_W32_le _)
    have h2 := rd_length h1
    omega
  obtain ⟨M, hM⟩ : ∃ M, M = (rd x).length := ⟨_, rfl⟩
  rw [← hM] at hrl
  have HM := Lib.hid hM; clear hM
  obtain ⟨D, hD⟩ : ∃ D, dd x = D := ⟨_, rfl⟩
  rw [hD]
  have HD := Lib.hid hD; clear hD
  obtain ⟨A, n, c, rfl, ha'⟩ := ha
  go_enter Tryz.func122, Tryz.ntmps122
  go_wp2_with fail
  go_loopw [0, 3] (fun a s wr => ∃ (y : Nat) (S : List Nat), s = .string (str S) ∧ Hid ((rd y).reverse ++ S = (rd x).reverse) ∧ y ≤ x ∧ IsN wr a y ∧ Below w.heap.size w wr) (fun _ s _ => M - Lib.strSize s)
  case atStart => exact ⟨x, [], rfl, List.append_nil _, Nat.le_refl _, ⟨A, n, c, rfl, ha'⟩, Below.refl _ _⟩
  case round =>
    obtain ⟨y, S, rfl, HS, hyx, hN, hbe⟩ := hrel
    clear ha'
    have hbs := hbe.size
    have hSl : (rd y).length + S.length = M := by
      have := congrArg List.length HS.out
      rw [List.length_append, List.length_reverse, List.length_reverse] at this
      rw [HM.out]
      exact this
    have hsz := str_size S
    obtain ⟨m, hm⟩ : ∃ m, S.length = m := ⟨_, rfl⟩
    rw [hm] at hsz hSl
    obtain ⟨A, c, rfl⟩ := hN.form
    rcases Nat.eq_zero_or_pos y with hy | hy
    · subst hy
      rw [len_zero] at hN ⊢
      have hS : S = (rd x).reverse := by
        have := HS.out
        rwa [rd_zero, List.reverse_nil, List.nil_append] at this
      have hq1 : ((str S).toList == []) = decide (S = []) := by
        have hb : Byt S := by rw [hS]; exact byt_reverse (rd_byt x)
        rw [← str_eql hb byt_nil, str_toList []]; rfl
      rcases Nat.eq_zero_or_pos x with h0 | h0
      · have hSn : S = [] := by rw [hS, h0, rd_zero]; rfl
        rw [decide_eq_true hSn] at hq1
        have HE := Lib.hid (show D = [48] by rw [← HD.out, h0]; rfl)
        clear hS hSn h0
        go_wp2_with fail
        go_ret
        exact ⟨by rw [HE.out]; rfl, hbe⟩
      · have hSn : S ≠ [] := by
          rw [hS]
          intro e
          exact rd_ne h0 (List.reverse_eq_nil_iff.1 e)
        rw [decide_eq_false hSn] at hq1
        have HE := Lib.hid (show D = S by rw [← HD.out, hS, dd_pos h0])
        clear hS hSn h0
        go_wp2_with fail
        go_ret
        exact ⟨by rw [HE.out]; rfl, hbe⟩
    · have hlp := len_pos hy
      have hly : len y ≤ 100000 := Nat.le_trans (len_mono hyx) hx
      obtain ⟨k, hk⟩ : ∃ k, len y = k + 1 := ⟨len y - 1, by omega⟩
      have HDM := Lib.hid (fun W vb (hW : Below wr.heap.size wr W) (hb : IsN W vb 10) => rdivmod_any y 10 (.slice A (len y) c) vb W (hN.mono hW) hb (by omega) (Nat.le_trans (len_num (x := 10) (n := 2) (by decide)) (by omega)) (by omega))
      have HO := Lib.hid (fun W => rof_any 10 W (by omega))
      obtain ⟨r, hr⟩ : ∃ r, y % 10 = r := ⟨_, rfl⟩
      have hr10 : r < 10 := by omega
      rw [hr] at HDM
      have HS2 := Lib.hid (show (rd (y / 10)).reverse ++ ((48 + r) :: S) = (rd x).reverse by
        rw [← HS.out, rd_pos hy, List.reverse_cons, List.append_assoc, hr]; rfl)
      rw [hk] at HDM ⊢
      have hsl2 := str_size [48 + r]
      rw [show [48 + r].length = 1 from rfl] at hsl2
      have hcat := cat_one (48 + r) S
      have hex := decs_extract hr10
      have hmb : m < M := by
        rw [rd_pos hy, List.length_cons] at hSl
        omega
      have hm6 : m ≤ 1000000 := by omega
      have HSZ := Lib.hid (str_size ((48 + r) :: S))
      have HMM := Lib.hid hm
      have HY2 := Lib.hid (show y / 10 ≤ x from Nat.le_trans (Nat.div_le_self _ _) hyx)
      clear hr HS hSl hm hN hlp hly hk hyx hy
      go_wp2_with fail
      refine (HO.out _).mono ?_
      rintro e w1 ⟨v1, rfl, o1⟩
      go_wp2_with fail
      refine (HDM.out _ _ o1.below o1.isN).mono ?_
      rintro e w2 ⟨vq, vr, rfl, oq, or, be⟩
      have hbe2 := hbe.trans ((o1.below.trans (be.mono o1.below.size)).mono hbs)
      have hNq := isN_of_own oq rfl
      clear hbe o1 be oq HO HDM
      rcases Nat.eq_zero_or_pos r with h0 | h0
      · subst h0
        rw [dig_zero] at or
        obtain ⟨Ar, cr, rfl, _⟩ := or.form
        clear or
        go_wp2_with fail
        go_roundw
        case rel => exact ⟨_, 48 :: S, rfl, HS2.out, HY2.out, hNq, hbe2⟩
        case measure => show M - (str (48 :: S)).size < M - (str S).size; rw [str_size, str_size, List.length_cons, HMM.out]; omega
      · rw [dig_one h0 (by omega)] at or
        obtain ⟨Ar, cr, rfl, _, hAr⟩ := or.form
        rcases hAr with ⟨_, hf⟩ | ⟨gr, rfl, _, _⟩
        · cases hf
        · obtain ⟨r', hcell, hr', _⟩ := or.cell (j := 0) (by simp)
          have hrr : r = r' := hr'
          subst hrr
          clear or hr'
          have hlen1 : ([r] : List Nat).length = 1 := rfl
          rw [hlen1]
          go_wp2_with fail
          go_roundw
          case rel => exact ⟨_, (48 + r) :: S, rfl, HS2.out, HY2.out, hNq, hbe2⟩
          case measure => show M - (str ((48 + r) :: S)).size < M - (str S).size; rw [str_size, str_size, List.length_cons, HMM.out]; omega

set_option maxHeartbeats 1000000 in
theorem rformat_any (z : Int) (vz : Value) (w : World) (hz : IsZ w vz z) (hl : zl z ≤ 100000) :
    Calls Tryz.prog 93 #[vz] w (RetS w (fmt z)) := by
  obtain ⟨A, c, rfl, hv⟩ := hz.form
  have hlx : len z.natAbs ≤ 100000 := hl
  have hdl := dd_length hlx
  have HD := Lib.hid (fun W hW => rdigits_any z.natAbs (.slice A (zl z) c) W hW hl)
  have L0 := (Lz.mk0 w).n hv
  clear hz hv
  have hcat := cat_minus (dd z.natAbs)
  have hsz := str_size (dd z.natAbs)
  obtain ⟨n, hn⟩ : ∃ n, (dd z.natAbs).length = n := ⟨_, rfl⟩
  rw [hn] at hsz hdl
  have hfm : fmt z = if z < 0 then 45 :: dd z.natAbs else dd z.natAbs := rfl
  generalize dd z.natAbs = D at *
  obtain ⟨F, hF⟩ : ∃ F, fmt z = F := ⟨_, rfl⟩
  rw [hF] at hfm ⊢
  have HF := Lib.hid hfm
  clear hF hfm hlx hn
  by_cases h : z < 0
  · rw [if_pos h] at HF
    rw [← HF.out] at hcat
    rw [ng_yes h]
    clear h
    go_enter Tryz.func93, Tryz.ntmps93
    go_wp2_with fail
    have L := L0.box (w.heap.size) (by simp) true A (zl z) c
    have c00 := L.b0.c0
    have c01 := L.b0.c1
    have f00 := L.b0.fr 0
    have f01 := L.b0.fr 1
    go_wp2_with fail
    refine (HD.out _ (L.getN (by simp))).mono ?_
    rintro e w1 ⟨rfl, be⟩
    replace L := L.step be
    go_wp2_with fail
    go_ret
    exact ⟨rfl, L.below⟩
  · rw [if_neg h] at HF
    rw [ng_no (show 0 ≤ z by omega)]
    clear h hcat
    go_enter Tryz.func93, Tryz.ntmps93
    go_wp2_with fail
    have L := L0.box (w.heap.size) (by simp) false A (zl z) c
    have c00 := L.b0.c0
    have c01 := L.b0.c1
    have f00 := L.b0.fr 0
    have f01 := L.b0.fr 1
    go_wp2_with fail
    refine (HD.out _ (L.getN (by simp))).mono ?_
    rintro e w1 ⟨rfl, be⟩
    replace L := L.step be
    go_wp2_with fail
    go_ret
    exact ⟨by rw [HF.out]; rfl, L.below⟩

end Go.Proofs.YtpgiolbnmlbjbaaGreatDoor
