/- The reference's Parse of fractions. -/
import Derived.Test.YtbndgggjfjdfbabGreatDoorRefDecm
import Derived.Test.YtbndgggjfjdfbabGreatDoorRefRatF
import Derived.Test.YtbndgggjfjdfbabGreatDoorRatT2
import Derived.Test.YtbndgggjfjdfbabGreatDoorByt
import Derived.Deep.RegionHeld3
import Derived.Deep.DrawnRows
namespace Go.Proofs.YtbndgggjfjdfbabGreatDoor
open Go.RowKit
set_option linter.unusedVariables false
set_option linter.unusedSimpArgs false
set_option maxRecDepth 100000
attribute [local go_sem ↓] Go.wp_at_zero Go.wp_at_succ

set_option maxHeartbeats 1000000 in
theorem rparse7_long (l : List Nat) (w : World) (hl : 400 < l.length) (hl2 : l.length ≤ 1000000) :
    Calls Tryz.prog 24 #[.string (str l)] w (RetPE w 0 0 7) := by
  have hsz := str_size l
  obtain ⟨n, hn⟩ : ∃ n, l.length = n := ⟨_, rfl⟩
  rw [hn] at hsz hl hl2
  have hd : decide ((400 : Int) < (n : Int)) = true := decide_eq_true (by omega)
  generalize str l = s at *
  clear hn hl
  go_enter Tryz.func24, Tryz.ntmps24
  go_wp2_with fail
  have L := ((Lq.mk0 w).varQ (w.heap.size) (by simp) false none none 0 0 0 0)
  have c00 := L.b0.c30
  have f00 := L.b0.fr 0
  have c01 := L.b0.c31
  have f01 := L.b0.fr 1
  have c02 := L.b0.c32
  have f02 := L.b0.fr 2
  go_wp2_with fail
  exact bodyPost_ret (v := .tuple #[.agg #[.bool false, .slice none 0 0, .slice none 0 0], .int .i64 7]) (by simp [results, Tryz.results24, go_sem, c00, c01, c02]) rfl ⟨_, rfl, isP_zero _, L.below⟩
set_option maxHeartbeats 1000000 in
theorem rparse7_bad (l : List Nat) (w : World) (hb : Byt l) (hl : l.length ≤ 400) (ho : okD l = false) :
    Calls Tryz.prog 24 #[.string (str l)] w (RetPE w 0 0 6) := by
  have hsz := str_size l
  have hd : decide ((400 : Int) < (l.length : Int)) = false := decide_eq_false (by omega)
  have hD := fun W => rdecimal_any l W hb (by omega)
  unfold RetDcm at hD
  rw [ho] at hD
  rw [if_neg (by simp), if_neg (by simp)] at hD
  have HD := Lib.hid hD
  obtain ⟨n, hn⟩ : ∃ n, l.length = n := ⟨_, rfl⟩
  rw [hn] at hsz hd hl
  generalize str l = s at *
  clear hn hD hb ho
  go_enter Tryz.func24, Tryz.ntmps24
  go_wp2_with fail
  have L := ((Lq.mk0 w).varQ (w.heap.size) (by simp) false none none 0 0 0 0)
  have c00 := L.b0.c30
  have f00 := L.b0.fr 0
  have c01 := L.b0.c31
  have f01 := L.b0.fr 1
  have c02 := L.b0.c32
  have f02 := L.b0.fr 2
  go_wp2_with fail
  refine (HD.out _).mono ?_
  rintro e w1 ⟨rfl, be⟩
  clear c00 f00 c01 f01 c02 f02
  replace L := L.step be
  clear be
  have c00 := L.b0.c30
  have f00 := L.b0.fr 0
  have c01 := L.b0.c31
  have f01 := L.b0.fr 1
  have c02 := L.b0.c32
  have f02 := L.b0.fr 2
  go_wp2_with fail
  have LP := L.putQ (by omega) (by simp) false none none 0 0 0 0
  have d0 := LP.b0.c30
  have d1 := LP.b0.c31
  have d2 := LP.b0.c32
  unfold put3 at d0 d1 d2
  exact bodyPost_ret (v := .tuple #[.agg #[.bool false, .slice none 0 0, .slice none 0 0], .int .i64 6]) (by simp [results, Tryz.results24, go_sem, d0, d1, d2]) rfl ⟨_, rfl, isP_zero _, LP.below⟩
set_option maxHeartbeats 4000000 in
theorem rparse7_ok (l : List Nat) (w : World) (hb : Byt l) (hl : l.length ≤ 400) (ho : okD l = true) :
    Calls Tryz.prog 24 #[.string (str l)] w (RetPE w (valD l).num (valD l).den 0) := by
  have hsz := str_size l
  have hd : decide ((400 : Int) < (l.length : Int)) = false := decide_eq_false (by omega)
  have hD := fun W => rdecimal_any l W hb (by omega)
  unfold RetDcm at hD
  rw [ho] at hD
  rw [if_pos rfl, if_pos rfl] at hD
  have HD := Lib.hid hD
  obtain ⟨q1, q2, q3⟩ := parts_cat l
  have hall : (whl l ++ frc l).all isD = true := by
    unfold okD at ho
    rw [Bool.and_eq_true] at ho
    rw [List.all_append, good_all ho.1, Bool.true_and]
    rcases cut_cases l with h | ⟨a, b, e, h⟩
    · rw [(parts_no h).2.1]; rfl
    · have h3 := (parts_yes (b := b) h).2.2
      rw [← e] at h3
      rw [h3] at ho
      exact (okF_all (by simpa using ho.2)).2.2
  have hbT : Byt (whl l ++ frc l) := byt_append (fun x hx => hb x (q2 x hx)) (fun x hx => hb x (q3 x hx))
  have hcat := str_append (whl l) (frc l)
  have hs1 := str_size (whl l)
  have hs2 := str_size (frc l)
  have hv : Rat.divInt ((num (whl l ++ frc l) : Nat) : Int) ((10 ^ (frc l).length : Nat) : Int) = valD l := rfl
  have q5 : (whl l).length + (frc l).length ≤ 400 := by rw [List.length_append] at q1; omega
  have hTl : (whl l ++ frc l).length = (whl l).length + (frc l).length := List.length_append
  have HT10 := Lib.hid (fun W => rten_any (frc l).length W (by omega))
  have l10 : zl ((10 ^ (frc l).length : Nat) : Int) ≤ 2001 := ten_len (m := (frc l).length) (by omega)
  have h10 : ((10 ^ (frc l).length : Nat) : Int) ≠ 0 := by
    have := Nat.pow_pos (n := (frc l).length) (show 0 < 10 by omega)
    omega
  have HLN := Lib.hid (fun m => show len (num ((whl l ++ frc l).take m)) ≤ 1000000 from by
    have h1 : ((whl l ++ frc l).take m).all isD = true := all_sub hall (fun x hx => List.mem_of_mem_take hx)
    have h2 := len_num (num_lt h1)
    rw [List.length_take] at h2
    omega)
  have HALL := Lib.hid (fun m (hm : m < (whl l ++ frc l).length) => show ∃ d, nth (whl l ++ frc l) m = 48 + d ∧ d < 10 from by
    have h1 : isD (nth (whl l ++ frc l) m) = true := by
      rw [nth_eq, List.getElem?_eq_getElem hm]
      exact List.all_eq_true.1 hall _ (List.getElem_mem hm)
    unfold isD at h1
    rw [decide_eq_true_iff] at h1
    exact ⟨nth (whl l ++ frc l) m - 48, by omega, by omega⟩)
  generalize (valD l) = V at *
  generalize whl l ++ frc l = T at *
  obtain ⟨n1, hn1⟩ : ∃ n, (whl l).length = n := ⟨_, rfl⟩
  obtain ⟨n2, hn2⟩ : ∃ n, (frc l).length = n := ⟨_, rfl⟩
  rw [hn1] at hs1 q5 hTl
  rw [hn2] at hs2 q5 hTl HT10 l10 h10 hv
  generalize str (whl l) = sa at *
  generalize str (frc l) = sb at *
  obtain ⟨n, hn⟩ : ∃ n, l.length = n := ⟨_, rfl⟩
  rw [hn] at hsz hd hl
  generalize str l = s at *
  obtain ⟨k, hk⟩ : ∃ k, n1 + n2 = k := ⟨_, rfl⟩
  rw [hk] at hTl q5
  have HTL := Lib.hid hTl
  have HBT := Lib.hid hbT
  have HVV := Lib.hid hv
  have HL10 := Lib.hid (show zl ((10 ^ n2 : Nat) : Int) ≤ 2001 ∧ ((10 ^ n2 : Nat) : Int) ≠ 0 from ⟨l10, h10⟩)
  have b1 : ¬ 9223372036854775807 < n1 + n2 := by omega
  have hsT := str_size T
  rw [hTl] at hsT
  have hq2 : n2 ≤ 400 := by omega
  clear hn hD hb ho q1 q2 q3 hall hn1 hn2 hTl hbT hv l10 h10
  go_enter Tryz.func24, Tryz.ntmps24
  go_wp2_with fail
  have L := ((Lq.mk0 w).varQ (w.heap.size) (by simp) false none none 0 0 0 0)
  have c00 := L.b0.c30
  have f00 := L.b0.fr 0
  have c01 := L.b0.c31
  have f01 := L.b0.fr 1
  have c02 := L.b0.c32
  have f02 := L.b0.fr 2
  go_wp2_with fail
  refine (HD.out _).mono ?_
  rintro e w1 ⟨rfl, be⟩
  clear c00 f00 c01 f01 c02 f02
  replace L := L.step be
  clear be
  obtain ⟨cp, w4, hcv, hcp, b4, hc4, hf4⟩ := conv_bytes w1 HBT.out
  rw [HTL.out] at hcv hcp hc4 hf4
  obtain ⟨gs, hgs⟩ : ∃ gs, w1.heap.size = gs := ⟨_, rfl⟩
  rw [hgs] at hcv hc4 hf4
  replace L := L.step b4
  have HC4 := Lib.hid hc4
  clear hc4 hf4 b4
  go_wp2_with fail
  clear hcv hgs
  go_loopw [7, 28] (fun v i wr => ∃ (m x : Nat), i = .int .i64 (m : Int) ∧ m ≤ k ∧ Hid (x = num (T.take m)) ∧ IsN wr v x ∧ Below w4.heap.size w4 wr) (fun _ i _ => k - (intOf i).toNat)
  case atStart => exact ⟨0, 0, rfl, by omega, rfl, IsN.zero _, Below.refl _ _⟩
  case round =>
    obtain ⟨m, x, rfl, hm, HX, hN, hbe⟩ := hrel
    have hbs := hbe.size
    rcases Nat.eq_or_lt_of_le hm with rfl | hmk
    · replace L := (L.step hbe).n hN
      have hxT : x = num T := by rw [HX.out, List.take_of_length_le (by rw [HTL.out]; exact Nat.le_refl _)]
      have hxl : len x ≤ 1000000 := by rw [HX.out]; exact HLN.out _
      have HS := Lib.hid (fun v W h => rznatN_any false x v W h (by omega))
      rw [show sg false x = (x : Int) from rfl] at HS
      have hzx : zl (x : Int) ≤ 1000000 := hxl
      have h5 := fun v u W k1 k2 => rof7_any (x : Int) ((10 ^ n2 : Nat) : Int) v u W k1 k2 (by omega) (Nat.le_trans HL10.out.1 (by omega)) HL10.out.2
      unfold RetQ at h5
      rw [hxT, HVV.out] at h5
      rw [← hxT] at h5
      have H5 := Lib.hid h5
      generalize V.num = rn at *
      generalize V.den = rd at *
      generalize ((10 ^ n2 : Nat) : Int) = TT at *
      clear h5 hxT hxl hzx HX hN hbe
      have c00 := L.b0.c30
      have f00 := L.b0.fr 0
      have c01 := L.b0.c31
      have f01 := L.b0.fr 1
      have c02 := L.b0.c32
      have f02 := L.b0.fr 2
      go_wp2_with fail
      refine (HS.out _ _ L.hn).mono ?_
      rintro e w21 ⟨v5, rfl, iz, be⟩
      clear c00 f00 c01 f01 c02 f02
      replace L := (L.step be).z iz
      clear be iz
      have c00 := L.b0.c30
      have f00 := L.b0.fr 0
      have c01 := L.b0.c31
      have f01 := L.b0.fr 1
      have c02 := L.b0.c32
      have f02 := L.b0.fr 2
      go_wp2_with fail
      refine (HT10.out _).mono ?_
      rintro e w22 ⟨v6, rfl, iz, be⟩
      clear c00 f00 c01 f01 c02 f02
      replace L := (L.step be).z iz
      clear be iz
      have c00 := L.b0.c30
      have f00 := L.b0.fr 0
      have c01 := L.b0.c31
      have f01 := L.b0.fr 1
      have c02 := L.b0.c32
      have f02 := L.b0.fr 2
      go_wp2_with fail
      refine (H5.out _ _ _ (L.getZ (by simp)) (L.getZ (by simp))).mono ?_
      rintro e w23 ⟨v7, rfl, iq, be⟩
      clear c00 f00 c01 f01 c02 f02
      replace L := (L.step be).q iq
      obtain ⟨A9, c9, B9, d9, rfl, _, _, _⟩ := iq.form
      clear be iq
      have c00 := L.b0.c30
      have f00 := L.b0.fr 0
      have c01 := L.b0.c31
      have f01 := L.b0.fr 1
      have c02 := L.b0.c32
      have f02 := L.b0.fr 2
      go_wp2_with fail
      have LP := L.putQ (by omega) (by first | (simp; done) | (simp; omega)) (ng (rn)) A9 B9 (zl (rn)) c9 (len (rd)) d9
      have k0 := LP.b0.c30
      have k1 := LP.b0.c31
      have k2 := LP.b0.c32
      unfold put3 at k0 k1 k2
      exact bodyPost_ret (v := .tuple #[.agg #[.bool (ng (rn)), .slice A9 (zl (rn)) c9, .slice B9 (len (rd)) d9], .int .i64 0]) (by simp [results, Tryz.results24, go_sem, k0, k1, k2]) rfl ⟨_, rfl, LP.hq, LP.below⟩
    · obtain ⟨d, hcd, hd10⟩ := HALL.out m (by rw [HTL.out]; exact hmk)
      have hc5 := HC4.out m hmk
      have hgl : gs < w4.heap.size := World.block_lt_of_cell? w4 ⟨gs, m, none⟩ hc5
      have hcell : wr.cell? ⟨gs, m, none⟩ = some (.int .u8 (48 + (d : Int))) := by
        rw [hbe.cell (p := ⟨gs, m, none⟩) hgl, hc5, hcd]
        simp
      have HS := Lib.hid (fun v W h => rsmall_any x 10 d v W h (by rw [HX.out]; exact Nat.le_trans (HLN.out m) (by omega)) (by omega) (by omega))
      have HX2 := Lib.hid (show x * 10 + d = num (T.take (m + 1)) from by
        rw [take_snoc (by rw [HTL.out]; exact hmk), num_snoc, hcd, ← HX.out]
        omega)
      have e1 : 48 + (d : Int) - 48 = (d : Int) := by omega
      have i0 : (0 : Int) ≤ (m : Int) := by omega
      have i1 : (m : Int) < (k : Int) := by omega
      clear hcd hc5 hgl
      go_wp2_with fail
      refine (HS.out _ _ hN).mono ?_
      rintro e w9 ⟨v9, rfl, o⟩
      clear hcell
      go_wp2_with fail
      go_roundw
      case rel => exact ⟨m + 1, _, by go_num, by omega, HX2.out, o.isN, hbe.trans (o.below.mono hbs)⟩
      case measure => simp [intOf]; omega
theorem rparse7_any (l : List Nat) (w : World) (hb : Byt l) (hl : l.length ≤ 1000000) :
    Calls Tryz.prog 24 #[.string (str l)] w (RetPE w (numD l) (denD l) (errD l)) := by
  unfold numD denD
  by_cases hlen : 400 < l.length
  · rw [show errD l = 7 from if_pos hlen, if_neg (by decide), if_neg (by decide)]
    exact rparse7_long l w hlen hl
  · have he : errD l = if okD l then 0 else 6 := if_neg hlen
    cases ho : okD l
    · rw [he, ho, if_neg (by simp), if_neg (by decide), if_neg (by decide)]
      exact rparse7_bad l w hb (by omega) ho
    · rw [he, ho, if_pos rfl, if_pos rfl, if_pos rfl]
      exact rparse7_ok l w hb (by omega) ho


end Go.Proofs.YtbndgggjfjdfbabGreatDoor
