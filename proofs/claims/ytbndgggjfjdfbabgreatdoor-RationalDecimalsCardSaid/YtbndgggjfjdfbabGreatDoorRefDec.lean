/- The reference's Decimal of fractions. -/
import Derived.Test.YtbndgggjfjdfbabGreatDoorRatT
import Derived.Test.YtbndgggjfjdfbabGreatDoorRefRatF
import Derived.Test.YtbndgggjfjdfbabGreatDoorFloor
import Derived.Test.YtbndgggjfjdfbabGreatDoorRefDig
import Derived.Test.YtbndgggjfjdfbabGreatDoorDecRat
import Derived.Deep.RegionHeld3
import Derived.Deep.DrawnRows
namespace Go.Proofs.YtbndgggjfjdfbabGreatDoor
open Go.RowKit
set_option linter.unusedVariables false
set_option linter.unusedSimpArgs false
set_option maxRecDepth 100000
attribute [local go_sem ↓] Go.wp_at_zero Go.wp_at_succ

theorem whole_divInt (M : Int) {d : Nat} (h : 0 < d) : (Rat.divInt (M * (d : Int)) ((d : Int) * ((1 : Nat) : Int))).num = M ∧ (Rat.divInt (M * (d : Int)) ((d : Int) * ((1 : Nat) : Int))).den = 1 := by
  have e : (d : Int) * ((1 : Nat) : Int) = (d : Int) := Int.mul_one _
  rw [e]
  obtain ⟨e1, e2⟩ := divInt_nat (M * (d : Int)) d h
  have hg : Nat.gcd (M * (d : Int)).natAbs d = d := by
    rw [Int.natAbs_mul, Int.natAbs_natCast]
    exact Nat.gcd_eq_right ⟨M.natAbs, Nat.mul_comm _ _⟩
  rw [e1, e2, hg, Nat.div_self h, Int.natAbs_mul, Int.natAbs_natCast, Nat.mul_div_cancel _ h]
  refine ⟨?_, rfl⟩
  have : ng (M * (d : Int)) = ng M := by
    unfold ng
    rw [Bool.eq_iff_iff, decide_eq_true_iff, decide_eq_true_iff]
    constructor
    · intro h1
      rcases (show M < 0 ∨ 0 ≤ M by omega) with h2 | h2
      · exact h2
      · have := Int.mul_nonneg h2 (show (0 : Int) ≤ d by omega)
        omega
    · intro h1
      exact Int.mul_neg_of_neg_of_pos h1 (by omega)
  rw [this]
  exact sg_self M
theorem strip_uniq {x b k u f : Nat} (h : x = b * 2 ^ k) (h2 : b % 2 ≠ 0) (hx : x = 2 ^ u * 5 ^ f) : k = u ∧ b = 5 ^ f := by
  have h1 : tz x = u := by rw [hx, tz_25]
  have h3 : tz x = k := by
    have e : b = 2 * (b / 2) + 1 := by omega
    rw [h, Nat.mul_comm, e]
    exact tz_mul _ _
  have hk : k = u := h3.symm.trans h1
  subst hk
  refine ⟨rfl, ?_⟩
  have : 2 ^ k * b = 2 ^ k * 5 ^ f := by rw [← hx, h, Nat.mul_comm]
  exact Nat.eq_of_mul_eq_mul_left (Nat.pow_pos (by omega)) this
theorem strip5_uniq {b c k f : Nat} (h : b = c * 5 ^ k) (h2 : c % 5 ≠ 0) (hb : b = 5 ^ f) : c = 1 ∧ k = f := by
  have hd : c ∣ 5 ^ f := ⟨5 ^ k, by rw [← hb, h]⟩
  obtain ⟨v, hv, e⟩ := dvd_ppow (by omega) pr5 f c hd
  have hv0 : v = 0 := by
    rcases Nat.eq_zero_or_pos v with h0 | h0
    · exact h0
    · exfalso
      apply h2
      obtain ⟨j, hj⟩ : ∃ j, v = j + 1 := ⟨v - 1, by omega⟩
      rw [e, hj, Nat.pow_succ, Nat.mul_mod_left]
  subst hv0
  have e1 : c = 1 := by rw [e]
  refine ⟨e1, ?_⟩
  rw [e1, Nat.one_mul] at h
  exact five_inj (h.symm.trans hb)

set_option maxHeartbeats 2000000 in
theorem rdec_no (a : Int) (d : Nat) (vx : Value) (w : World) (hx : IsP w vx a d) (la : zl a ≤ 1000) (ld : len d ≤ 60) (hd0 : 0 < d) (hn : a < 0 ∨ ∀ u f, d ≠ 2 ^ u * 5 ^ f) :
    Calls Tryz.prog 21 #[vx] w (RetSB w [] false) := by
  obtain ⟨A, c, B, g, rfl, _, _, hnd⟩ := hx.form
  have HS1 := Lib.hid (fun v W k1 => rstrip_any d 2 v W k1 (by omega) hd0 (by omega) (by omega))
  have L0 := ((Lq.mk0 w).q hx).n hnd
  clear hx hnd
  have HN := Lib.hid hn
  clear hn
  go_enter Tryz.func21, Tryz.ntmps21
  go_wp2_with fail
  have L := (L0.varQ (w.heap.size) (by simp) (ng a) A B (zl a) c (len d) g)
  have c00 := L.b0.c30
  have f00 := L.b0.fr 0
  have c01 := L.b0.c31
  have f01 := L.b0.fr 1
  have c02 := L.b0.c32
  have f02 := L.b0.fr 2
  refine (HS1.out _ _ (L.getN (by simp))).mono ?_
  rintro e w1 ⟨v1, b, k, rfl, ib, be, HB, hlb, hk⟩
  clear c00 f00 c01 f01 c02 f02
  replace L := (L.step be).n ib
  clear be ib
  have c00 := L.b0.c30
  have f00 := L.b0.fr 0
  have c01 := L.b0.c31
  have f01 := L.b0.fr 1
  have c02 := L.b0.c32
  have f02 := L.b0.fr 2
  have HS2 := Lib.hid (fun v W k1 => rstrip_any b 5 v W k1 (by omega) HB.out.2.1 (by omega) (by omega))
  go_wp2_with fail
  refine (HS2.out _ _ L.hn).mono ?_
  rintro e w2 ⟨v2, b2, k2, rfl, ib, be, HB2, hlb2, hk2⟩
  clear c00 f00 c01 f01 c02 f02
  replace L := (L.step be).n ib
  clear be ib HS1 HS2
  have c00 := L.b0.c30
  have f00 := L.b0.fr 0
  have c01 := L.b0.c31
  have f01 := L.b0.fr 1
  have c02 := L.b0.c32
  have f02 := L.b0.fr 2
  by_cases hneg : a < 0
  · have hng : ng a = true := ng_yes hneg
    rw [hng] at L c00 ⊢
    go_wp2_with fail
    go_ret2
    exact ⟨rfl, L.below⟩
  · have hng : ng a = false := ng_no (by omega)
    have hb2 : b2 ≠ 1 := fun e => (HN.out.elim (fun h => hneg h) (fun h => h k k2 (by rw [HB.out.1, HB2.out.1, e, Nat.one_mul, Nat.mul_comm])))
    have hsb : sameB b2 1 = false := decide_eq_false hb2
    rw [hng] at L c00 ⊢
    go_wp2_with fail
    refine (rof_any 1 _ (by omega)).mono ?_
    rintro e w5 ⟨v5, rfl, o⟩
    replace L := (L.step o.below).n o.isN
    clear o
    go_wp2_with fail
    refine (same_any b2 1 _ _ _ (L.getN (by simp)) (L.getN (by simp))).mono ?_
    rintro e w' ⟨rfl, rfl⟩
    rw [hsb]
    go_wp2_with fail
    go_ret2
    exact ⟨rfl, L.below⟩
set_option maxHeartbeats 4000000 in
theorem rdec_yes (a : Int) (d u f : Nat) (vx : Value) (w : World) (hx : IsP w vx a d) (la : zl a ≤ 1000) (ld : len d ≤ 60) (h0 : 0 ≤ a) (hd : d = 2 ^ u * 5 ^ f) (hm : max u f ≤ 1000) :
    Calls Tryz.prog 21 #[vx] w (RetSB w (pt (dd (a.natAbs * (10 ^ max u f / (2 ^ u * 5 ^ f)))) (max u f)) true) := by
  have hd0 : 0 < d := by rw [hd]; exact Nat.mul_pos (Nat.pow_pos (by omega)) (Nat.pow_pos (by omega))
  obtain ⟨A, c, B, g, rfl, _, _, hnd⟩ := hx.form
  have HS1 := Lib.hid (fun v W k1 => rstrip_any d 2 v W k1 (by omega) hd0 (by omega) (by omega))
  have L0 := ((Lq.mk0 w).q hx).n hnd
  clear hx hnd
  have HD := Lib.hid hd
  rw [ng_no h0] at L0 ⊢
  clear hd
  obtain ⟨m, hme⟩ : ∃ m, max u f = m := ⟨_, rfl⟩
  obtain ⟨M, hMe⟩ : ∃ M : Nat, a.natAbs * (10 ^ max u f / (2 ^ u * 5 ^ f)) = M := ⟨_, rfl⟩
  obtain ⟨D, hDe⟩ : ∃ D, dd M = D := ⟨_, rfl⟩
  rw [hMe, hDe, hme]
  rw [hme] at hMe hm
  have HME := Lib.hid hme
  have HMM := Lib.hid hMe
  have HDD := Lib.hid hDe
  clear hme hMe hDe
  go_enter Tryz.func21, Tryz.ntmps21
  go_wp2_with fail
  have L := (L0.varQ (w.heap.size) (by simp) false A B (zl a) c (len d) g)
  have c00 := L.b0.c30
  have f00 := L.b0.fr 0
  have c01 := L.b0.c31
  have f01 := L.b0.fr 1
  have c02 := L.b0.c32
  have f02 := L.b0.fr 2
  refine (HS1.out _ _ (L.getN (by simp))).mono ?_
  rintro e w1 ⟨v1, b, k, rfl, ib, be, HB, hlb, hk⟩
  clear c00 f00 c01 f01 c02 f02
  replace L := (L.step be).n ib
  clear be ib
  have c00 := L.b0.c30
  have f00 := L.b0.fr 0
  have c01 := L.b0.c31
  have f01 := L.b0.fr 1
  have c02 := L.b0.c32
  have f02 := L.b0.fr 2
  have HS2 := Lib.hid (fun v W k1 => rstrip_any b 5 v W k1 (by omega) HB.out.2.1 (by omega) (by omega))
  go_wp2_with fail
  refine (HS2.out _ _ L.hn).mono ?_
  rintro e w2 ⟨v2, b2, k2, rfl, ib, be, HB2, hlb2, hk2⟩
  clear c00 f00 c01 f01 c02 f02
  replace L := (L.step be).n ib
  clear be ib HS1 HS2
  have c00 := L.b0.c30
  have f00 := L.b0.fr 0
  have c01 := L.b0.c31
  have f01 := L.b0.fr 1
  have c02 := L.b0.c32
  have f02 := L.b0.fr 2
  obtain ⟨e1, e2⟩ := strip_uniq HB.out.1 HB.out.2.2 HD.out
  obtain ⟨e3, e4⟩ := strip5_uniq HB2.out.1 HB2.out.2.2 e2
  subst e1; subst e4; subst e3
  clear e2 HB HB2 hlb hk hlb2 hk2
  go_wp2_with fail
  refine (rof_any 1 _ (by omega)).mono ?_
  rintro e w5 ⟨v5, rfl, o⟩
  replace L := (L.step o.below).n o.isN
  clear o
  go_wp2_with fail
  refine (same_any 1 1 _ _ _ (L.getN (by simp)) (L.getN (by simp))).mono ?_
  rintro e w' ⟨rfl, rfl⟩
  rw [show sameB 1 1 = true from rfl]
  have hme := HME.out
  have hMe := HMM.out
  have hmx := max_val k k2
  rw [hme] at hmx
  have hdv : d * (10 ^ m / d) = 10 ^ m := Nat.mul_div_cancel' (by rw [HD.out, ← hme]; exact dvd_ten k k2)
  have hMd : a * ((10 ^ m : Nat) : Int) = (M : Int) * (d : Int) := by
    have e5 : (a.natAbs : Int) = a := by omega
    rw [← HD.out] at hMe
    obtain ⟨T', hT⟩ : ∃ T', 10 ^ m / d = T' := ⟨_, rfl⟩
    rw [hT] at hdv hMe
    rw [← hMe, ← hdv, Int.natCast_mul, Int.natCast_mul, e5, Int.mul_assoc, Int.mul_comm (d : Int)]
  have lt := ten_len (m := m) (by omega)
  have l1 : zl 1 ≤ 1 := len_le1 (show 1 < 4294967296 by omega)
  have l2 : len 1 ≤ 1 := len_le1 (by omega)
  have lM : len M ≤ 3001 := by
    rw [← hMe]
    have h1 := len_mul a.natAbs (10 ^ m / (2 ^ k * 5 ^ k2))
    have h2 : len (10 ^ m / (2 ^ k * 5 ^ k2)) ≤ 2001 := Nat.le_trans (len_mono (Nat.div_le_self _ _)) lt
    have h3 : len a.natAbs ≤ 1000 := la
    omega
  have lT : zl ((10 ^ m : Nat) : Int) ≤ 2001 := lt
  have P1 := Lib.hid (fun W => rten_any m W hm)
  have P2 := Lib.hid (fun W => rzof_any 1 W (by omega) (by omega))
  have p3 := fun v u W k1 k2 => rof7_any ((10 ^ m : Nat) : Int) 1 v u W k1 k2 (by omega) (by omega) (by omega)
  unfold RetQ at p3
  rw [rat_of, show ((((10 ^ m : Nat) : Int)) : Rat).num = ((10 ^ m : Nat) : Int) from rfl, show ((((10 ^ m : Nat) : Int)) : Rat).den = 1 from rfl] at p3
  have P3 := Lib.hid p3
  have p4 := fun v u W k1 k2 => rmul7_any a d ((10 ^ m : Nat) : Int) 1 v u W k1 k2 (by omega) (by omega) (by omega) (by omega) hd0 (by omega)
  unfold RetQ at p4
  rw [hMd, (whole_divInt (M : Int) hd0).1, (whole_divInt (M : Int) hd0).2] at p4
  have P4 := Lib.hid p4
  have lM' : zl (M : Int) ≤ 3001 := lM
  have p5 := fun v W k1 => rfloor7_any (M : Int) 1 v W k1 (by omega) (by omega) (by omega)
  rw [show ((1 : Nat) : Int) = 1 from rfl, Int.ediv_one] at p5
  have P5 := Lib.hid p5
  have p6 := fun v W k1 => rformat_any (M : Int) v W k1 (by omega)
  rw [fmt_nn (Int.natCast_nonneg M), Int.natAbs_natCast] at p6
  have P6 := p6
  have hDl := dd_length lM
  have hDb := dd_byt M
  have hDe := HDD.out
  rw [hDe] at hDl hDb P6
  replace P6 := Lib.hid P6
  clear hDe HDD HMM HME
  clear p3 p4 p5 p6 hMd hdv hMe lM lM' lT lt l1 l2 la ld h0 HD hme hd0
  generalize (M : Int) = z at *
  generalize ((10 ^ m : Nat) : Int) = T at *
  clear c00 f00 c01 f01 c02 f02
  go_wp2_with fail
  replace L := L.drew
  have c00 := L.b0.c30
  have f00 := L.b0.fr 0
  have c01 := L.b0.c31
  have f01 := L.b0.fr 1
  have c02 := L.b0.c32
  have f02 := L.b0.fr 2
  go_region_held3 (fun w' => w'.cell? ⟨w.heap.size, 0, none⟩ = some (.bool false) ∧ w'.cell? ⟨w.heap.size, 1, none⟩ = some (.slice A (zl a) c) ∧ w'.cell? ⟨w.heap.size, 2, none⟩ = some (.slice B (len d) g)) (first | (with_reducible exact ⟨L.b0.c30, L.b0.c31, L.b0.c32⟩) | exact ⟨L.b0.c30, L.b0.c31, L.b0.c32⟩) (first | (go_at_call 57; (with_reducible refine (P1.out _ ).mono ?_); rintro e wh ⟨vh, rfl, iz, be⟩; replace L := (L.step be).z iz; clear be iz) | (go_at_call 45; (with_reducible refine (P2.out _ ).mono ?_); rintro e wh ⟨vh, rfl, iz, be⟩; replace L := (L.step be).z iz; clear be iz) | (go_at_call 43; (with_reducible refine (P3.out _ _ _ ?_ ?_ ).mono ?_); (· (refine L.getZ ?_; (repeat (first | (with_reducible exact List.mem_cons_self) | apply List.mem_cons_of_mem)))); (· (refine L.getZ ?_; (repeat (first | (with_reducible exact List.mem_cons_self) | apply List.mem_cons_of_mem)))); rintro e wh ⟨vh, rfl, iq, be⟩; replace L := (L.step be).q iq; clear be iq) | (go_at_call 19; (with_reducible refine (P4.out _ _ _ ?_ ?_ ).mono ?_); (· (refine L.getQ ?_; (repeat (first | (with_reducible exact List.mem_cons_self) | apply List.mem_cons_of_mem)))); (· (refine L.getQ ?_; (repeat (first | (with_reducible exact List.mem_cons_self) | apply List.mem_cons_of_mem)))); rintro e wh ⟨vh, rfl, iq, be⟩; replace L := (L.step be).q iq; clear be iq) | (go_at_call 12; (with_reducible refine (P5.out _ _ ?_ ).mono ?_); (· (refine L.getQ ?_; (repeat (first | (with_reducible exact List.mem_cons_self) | apply List.mem_cons_of_mem)))); rintro e wh ⟨vh, rfl, iz, be⟩; replace L := (L.step be).z iz; clear be iz) | (go_at_call 56; (with_reducible refine (P6.out _ _ ?_ ).mono ?_); (· (refine L.getZ ?_; (repeat (first | (with_reducible exact List.mem_cons_self) | apply List.mem_cons_of_mem)))); rintro e wh ⟨rfl, be⟩; replace L := L.step be; clear be))
  clear c00 f00 c01 f01 c02 f02
  clear P1 P2 P3 P4 P5 P6
  rcases Nat.eq_zero_or_pos m with hm0 | hm0
  · subst hm0
    go_wp2_with fail
    go_ret2
    exact ⟨by rw [pt_zero]; rfl, L.below⟩
  · have hm1 : ((m : Int) == 0) = false := by rw [beq_eq_false_iff_ne]; omega
    have hbl := L.below
    obtain ⟨n, hn⟩ : ∃ n, D.length = n := ⟨_, rfl⟩
    have HN := Lib.hid hn
    rw [hn] at hDl
    clear hn L
    go_wp2_with fail
    go_loopw [8] (fun s wr => ∃ j : Nat, s = .string (str (zs48 j ++ D)) ∧ (j = 0 ∨ j + n ≤ m + 1) ∧ Below w.heap.size w wr) (fun s _ => m + 2 + n - Lib.strSize s)
    case atStart => exact ⟨0, rfl, .inl rfl, hbl⟩
    case round =>
      obtain ⟨j, rfl, hj, hbe⟩ := hrel
      clear hbl
      have hs1 := str_size (zs48 j ++ D)
      rw [List.length_append, zs_length, HN.out] at hs1
      have hs0 : (str [48]).size = 1 := str_size _
      have hcat : (⟨#[48]⟩ : ByteArray) ++ str (zs48 j ++ D) = str (zs48 (j + 1) ++ D) := str_append [48] _
      by_cases hle : j + n ≤ m
      · have b1 : ¬ 9223372036854775807 < 1 + (j + n) := by omega
        have b0 : decide ((j : Int) + (n : Int) ≤ (m : Int)) = true := decide_eq_true (by omega)
        go_wp2_with fail
        go_roundw
        case rel => exact ⟨j + 1, rfl, .inr (by omega), hbe⟩
        case measure => show m + 2 + n - (str (zs48 (j + 1) ++ D)).size < m + 2 + n - (str (zs48 j ++ D)).size; rw [str_size, str_size, List.length_append, List.length_append, zs_length, zs_length, HN.out]; omega
      · have b0 : decide ((j : Int) + (n : Int) ≤ (m : Int)) = false := decide_eq_false (by omega)
        have hpad : zs48 j ++ D = pad D m := by
          unfold pad
          rw [HN.out, show m + 1 - n = j by omega]
        have hjn : j + n = max n (m + 1) := by omega
        rw [hpad] at hs1 ⊢
        have hP : (pad D m).length = j + n := by rw [← hpad, List.length_append, zs_length, HN.out]
        obtain ⟨P, hPe⟩ : ∃ P, j + n = P := ⟨_, rfl⟩
        have hPi : (j : Int) + (n : Int) = (P : Int) := by omega
        rw [hPe] at hs1 hP
        obtain ⟨t, ht⟩ : ∃ t, P - m = t := ⟨_, rfl⟩
        have hx1 : (str (pad D m)).extract 0 t = str ((pad D m).take t) := by rw [str_extract]; rfl
        have hx2 : (str (pad D m)).extract t P = str ((pad D m).drop t) := by rw [str_extract, List.take_of_length_le (by rw [List.length_drop]; omega)]
        have hx3 : str ((pad D m).take t) ++ (⟨#[46]⟩ : ByteArray) = str ((pad D m).take t ++ [46]) := str_append _ [46]
        have hx4 : str ((pad D m).take t ++ [46]) ++ str ((pad D m).drop t) = str (pt D m) := by
          rw [str_append, pt_pos _ hm0, hP, ht, List.append_assoc]; rfl
        have hs4 : (str ((pad D m).take t)).size = t := by rw [str_size, List.length_take]; omega
        have hs5 : (str ((pad D m).take t ++ [46])).size = t + 1 := by rw [str_size, List.length_append, List.length_take]; simp; omega
        have hs6 : (str ((pad D m).drop t)).size = m := by rw [str_size, List.length_drop]; omega
        have hPt : (P : Int) - (m : Int) = (t : Int) := by omega
        have htP : t ≤ P := by omega
        have i1 : (0 : Int) ≤ (t : Int) := by omega
        have i2 : (t : Int) ≤ (P : Int) := by omega
        have b2 : ¬ 9223372036854775807 < t + 1 := by omega
        have b3 : ¬ 9223372036854775807 < t + 1 + m := by omega
        have b4 : ¬ 9223372036854775807 ≤ t := by omega
        have b5 : decide ((P : Int) ≤ (m : Int)) = false := decide_eq_false (by omega)
        have b6 : decide (P ≤ m) = false := decide_eq_false (by omega)
        have b7 : ¬ P ≤ m := by omega
        have hP6 : P ≤ 200001 := by omega
        obtain ⟨R, hR⟩ : ∃ R, str (pt D m) = R := ⟨_, rfl⟩
        rw [hR] at hx4
        have HRR := Lib.hid hR
        clear hR hcat hjn hPi hpad hP b0 hle hj hPe ht HN hs0
        generalize str ((pad D m).take t ++ [46]) = s3 at *
        generalize str ((pad D m).take t) = s1 at *
        generalize str ((pad D m).drop t) = s2 at *
        generalize str (pad D m) = S at *
        go_wp2_with fail
        go_region
        go_wp2_with fail
        go_ret2
        exact ⟨by rw [HRR.out]; rfl, hbe.drew⟩

end Go.Proofs.YtbndgggjfjdfbabGreatDoor
