/- The program's Make, Of. -/
import Derived.Test.YtpgiolbnmlbjbaaGreatDoorDyPA
import Derived.Test.YtpgiolbnmlbjbaaGreatDoorRefDyC
import Derived.Test.YtpgiolbnmlbjbaaGreatDoorRatMath
import Derived.Deep.RegionHeld3
import Derived.Deep.DrawnRows
namespace Go.Proofs.YtpgiolbnmlbjbaaGreatDoor
open Go.RowKit
set_option linter.unusedVariables false
set_option linter.unusedSimpArgs false
set_option maxRecDepth 100000
attribute [local go_sem ↓] Go.wp_at_zero Go.wp_at_succ

theorem oddM_div (m : Int) : m / 2 ^ tz m.natAbs = oddM m := by
  unfold oddM
  by_cases h : m = 0
  · subst h; simp [sg]
  · obtain ⟨k, hk⟩ := tz_form (x := m.natAbs) (by omega)
    have := sg_div m (2 ^ tz m.natAbs) ⟨2 * k + 1, hk⟩ (ng m) rfl
    rw [this]
    simp

set_option maxHeartbeats 4000000 in
theorem dmake_any (m e : Int) (vm : Value) (w : World) (hm : IsZ w vm m) (lm : zl m ≤ 30000) (hT : Tab w) :
    Calls Tryz.prog 14 #[vm, .int .i64 e] w (RetDE w (mkM m e) (mkE m e) (mkR m e)) := by
  obtain ⟨A, c, rfl, hn⟩ := hm.form
  have L0 := ((Lq.mk0 w).n hn).z hm
  have HT0 := Lib.hid (fun W (hW : Below w.heap.size w W) => hT.mono hW)
  obtain ⟨R, hR⟩ : ∃ R, mkR m e = R := ⟨_, rfl⟩
  obtain ⟨M2, hM2⟩ : ∃ M2, mkM m e = M2 := ⟨_, rfl⟩
  obtain ⟨E2, hE2⟩ : ∃ E2, mkE m e = E2 := ⟨_, rfl⟩
  rw [hR, hM2, hE2]
  unfold mkM at hM2
  unfold mkE at hE2
  rw [hR] at hM2 hE2
  unfold mkR at hR
  have hw0 := fun W => within_any e 131072 W (by omega) (by omega)
  by_cases q0 : e < -131072 ∨ 131072 < e
  · obtain rfl : 1 = R := by rw [← hR, if_pos q0]
    obtain rfl : 0 = M2 := by simpa using hM2
    obtain rfl : 0 = E2 := by simpa using hE2
    rw [show (decide (-131072 ≤ e) && decide (e ≤ 131072)) = false from by rw [Bool.and_eq_false_iff, decide_eq_false_iff_not, decide_eq_false_iff_not]; omega] at hw0
    have HW := Lib.hid hw0
    clear hR hM2 hE2 hm hn q0 hw0 HT0 hT
    go_enter Tryz.func14, Tryz.ntmps14
    go_wp2_with fail
    have L := ((L0.varZ (w.heap.size) (by simp) (ng m) A (zl m) c).varD (w.heap.size + 1) (by simp) false none 0 0 0)
    have c00 := L.b0.c30
    have f00 := L.b0.fr 0
    have c01 := L.b0.c31
    have f01 := L.b0.fr 1
    have c02 := L.b0.c32
    have f02 := L.b0.fr 2
    have c10 := L.tl.b0.c20
    have f10 := L.tl.b0.fr 0
    have c11 := L.tl.b0.c21
    have f11 := L.tl.b0.fr 1
    (try go_wp2_with fail)
    refine (HW.out _).mono ?_
    rintro e9 w' ⟨rfl, rfl⟩
    go_wp2_with fail
    first
    | exact bodyPost_ret (v := .tuple #[.agg #[.bool false, .slice none 0 0, .int .i64 0], .int .i64 1]) (by simp [results, Tryz.results14, go_sem, c00, c01, c02]) rfl ⟨_, rfl, isD_zero _, L.below⟩
    | (have LP := L.putD (by omega) (by first | (simp; done) | (simp; omega)) false none 0 0 0
       have k0 := LP.b0.c30
       have k1 := LP.b0.c31
       have k2 := LP.b0.c32
       unfold put3 at k0 k1 k2
       exact bodyPost_ret (v := .tuple #[.agg #[.bool false, .slice none 0 0, .int .i64 0], .int .i64 1]) (by simp [results, Tryz.results14, go_sem, k0, k1, k2]) rfl ⟨_, rfl, isD_zero _, LP.below⟩)
  · rw [if_neg q0] at hR
    rw [show (decide (-131072 ≤ e) && decide (e ≤ 131072)) = true from by rw [Bool.and_eq_true, decide_eq_true_iff, decide_eq_true_iff]; omega] at hw0
    have HW := Lib.hid hw0
    have hs0 := fun v W h => zsign_any m v W h (by omega)
    rcases Nat.eq_zero_or_pos (zl m) with h0 | h0
    · obtain rfl := zl_eq_zero h0
      obtain rfl : 0 = R := by simpa using hR
      obtain rfl : 0 = M2 := by simpa [oddM_zero] using hM2
      obtain rfl : 0 = E2 := by simpa using hE2
      rw [show cmpI 0 0 = 0 from rfl] at hs0
      have HS := Lib.hid hs0
      rw [h0]
      rw [h0] at L0
      clear hR hM2 hE2 hm hn HT0 hT hs0 hw0 q0
      go_enter Tryz.func14, Tryz.ntmps14
      go_wp2_with fail
      have L := ((L0.varZ (w.heap.size) (by simp) (ng 0) A 0 c).varD (w.heap.size + 1) (by simp) false none 0 0 0)
      have c00 := L.b0.c30
      have f00 := L.b0.fr 0
      have c01 := L.b0.c31
      have f01 := L.b0.fr 1
      have c02 := L.b0.c32
      have f02 := L.b0.fr 2
      have c10 := L.tl.b0.c20
      have f10 := L.tl.b0.fr 0
      have c11 := L.tl.b0.c21
      have f11 := L.tl.b0.fr 1
      (try go_wp2_with fail)
      refine (HW.out _).mono ?_
      rintro e9 w' ⟨rfl, rfl⟩
      go_wp2_with fail
      refine (HS.out _ _ (L.getZ (by simp))).mono ?_
      rintro e w1 ⟨rfl, be⟩
      clear c00 f00 c01 f01 c02 f02 c10 f10 c11 f11
      replace L := L.step be
      clear be
      have c00 := L.b0.c30
      have f00 := L.b0.fr 0
      have c01 := L.b0.c31
      have f01 := L.b0.fr 1
      have c02 := L.b0.c32
      have f02 := L.b0.fr 2
      have c10 := L.tl.b0.c20
      have f10 := L.tl.b0.fr 0
      have c11 := L.tl.b0.c21
      have f11 := L.tl.b0.fr 1
      (try go_wp2_with fail)
      first
      | exact bodyPost_ret (v := .tuple #[.agg #[.bool false, .slice none 0 0, .int .i64 0], .int .i64 0]) (by simp [results, Tryz.results14, go_sem, c00, c01, c02]) rfl ⟨_, rfl, isD_zero _, L.below⟩
      | (have LP := L.putD (by omega) (by first | (simp; done) | (simp; omega)) false none 0 0 0
         have k0 := LP.b0.c30
         have k1 := LP.b0.c31
         have k2 := LP.b0.c32
         unfold put3 at k0 k1 k2
         exact bodyPost_ret (v := .tuple #[.agg #[.bool false, .slice none 0 0, .int .i64 0], .int .i64 0]) (by simp [results, Tryz.results14, go_sem, k0, k1, k2]) rfl ⟨_, rfl, isD_zero _, LP.below⟩)
    · have hm0 : m ≠ 0 := fun h => by rw [h, zl_zero] at h0; omega
      have hk : (cmpI m 0 == 0) = false := by
        have : cmpI m 0 ≠ 0 := fun h => hm0 (cmpI_zero h)
        simpa using this
      generalize cmpI m 0 = k at *
      have HS := Lib.hid hs0
      rw [if_neg hm0] at hR hE2
      have hlm : len m.natAbs ≤ 30000 := lm
      have hM0 : oddM m ≠ 0 := fun h => by have := oddM_pos hm0; rw [h] at this; exact absurd this (by decide)
      have hzl := zl_odd m
      have HZ := Lib.hid (fun v W h h2 => nzeros_any m.natAbs v W h (by omega) h2)
      have hzz : tz m.natAbs ≤ 960000 := by
        have := tz_le8 m.natAbs (by omega)
        omega
      have hse : oddE m e = e + (tz m.natAbs : Int) := rfl
      have HV := Lib.hid (fun v W h => dvalid_d (oddM m) (oddE m e) v W h (by omega))
      rw [if_neg hM0] at HV
      have hso := oddM_div m
      obtain ⟨z, hz⟩ : ∃ z, tz m.natAbs = z := ⟨_, rfl⟩
      rw [hz] at HZ hzz hso hse
      have h3 := fun v W h h2 => zshr_any m v W h (by omega) z (by omega) h2
      rw [hso] at h3
      have H3 := Lib.hid h3
      obtain ⟨ok, hok⟩ : ∃ ok, fits8 (oddM m) (oddE m e) = ok := ⟨_, rfl⟩
      rw [hok] at hR HV
      obtain ⟨M, hM⟩ : ∃ M, oddM m = M := ⟨_, rfl⟩
      obtain ⟨E, hE⟩ : ∃ E, oddE m e = E := ⟨_, rfl⟩
      rw [hM] at hM2 HV H3
      rw [hE] at hE2 HV hse
      have hw : IntKind.i64.wrap (e + (z : Int)) = E := by rw [hse, IntKind.wrap_i64]; omega
      have HF : (ok = false → R = 3 ∧ M2 = 0 ∧ E2 = 0) ∧ (ok = true → R = 0 ∧ M2 = M ∧ E2 = E) := by
        refine ⟨fun h => ?_, fun h => ?_⟩ <;> subst h <;> simp at hR <;> subst hR <;> simp at hM2 hE2 <;> exact ⟨rfl, hM2.symm, hE2.symm⟩
      clear hR hM2 hE2 hso hse hM0 hzl hok hM hE hz hlm hm0 h0 h3 hs0 hw0 hm hn hT q0
      go_enter Tryz.func14, Tryz.ntmps14
      go_wp2_with fail
      have L := ((L0.varZ (w.heap.size) (by simp) (ng m) A (zl m) c).varD (w.heap.size + 1) (by simp) false none 0 0 0)
      have c00 := L.b0.c30
      have f00 := L.b0.fr 0
      have c01 := L.b0.c31
      have f01 := L.b0.fr 1
      have c02 := L.b0.c32
      have f02 := L.b0.fr 2
      have c10 := L.tl.b0.c20
      have f10 := L.tl.b0.fr 0
      have c11 := L.tl.b0.c21
      have f11 := L.tl.b0.fr 1
      (try go_wp2_with fail)
      refine (HW.out _).mono ?_
      rintro e9 w' ⟨rfl, rfl⟩
      go_wp2_with fail
      refine (HS.out _ _ (L.getZ (by simp))).mono ?_
      rintro e w1 ⟨rfl, be⟩
      clear c00 f00 c01 f01 c02 f02 c10 f10 c11 f11
      replace L := L.step be
      clear be
      have c00 := L.b0.c30
      have f00 := L.b0.fr 0
      have c01 := L.b0.c31
      have f01 := L.b0.fr 1
      have c02 := L.b0.c32
      have f02 := L.b0.fr 2
      have c10 := L.tl.b0.c20
      have f10 := L.tl.b0.fr 0
      have c11 := L.tl.b0.c21
      have f11 := L.tl.b0.fr 1
      (try go_wp2_with fail)
      refine (HZ.out _ _ (L.getN (by simp)) (HT0.out _ L.below)).mono ?_
      rintro e9 w' ⟨rfl, rfl⟩
      go_wp2_with fail
      refine (H3.out _ _ (L.getZ (by simp)) (HT0.out _ L.below)).mono ?_
      rintro e w2 ⟨v1, rfl, iz, be⟩
      clear c00 f00 c01 f01 c02 f02 c10 f10 c11 f11
      replace L := (L.step be).z iz
      obtain ⟨A3, c5, rfl, in3⟩ := iz.form
      replace L := L.n in3
      clear be iz in3
      have hlt := L.b0.lt
      have c00 := L.b0.c30
      have f00 := L.b0.fr 0
      have c01 := L.b0.c31
      have f01 := L.b0.fr 1
      have c02 := L.b0.c32
      have f02 := L.b0.fr 2
      have c10 := L.tl.b0.c20
      have f10 := L.tl.b0.fr 0
      have c11 := L.tl.b0.c21
      have f11 := L.tl.b0.fr 1
      replace L := L.varD w2.heap.size rfl (ng M) A3 (zl M) c5 E
      clear c00 f00 c01 f01 c02 f02 c10 f10 c11 f11
      have c00 := L.b0.c30
      have f00 := L.b0.fr 0
      have c01 := L.b0.c31
      have f01 := L.b0.fr 1
      have c02 := L.b0.c32
      have f02 := L.b0.fr 2
      have c10 := L.tl.b0.c30
      have f10 := L.tl.b0.fr 0
      have c11 := L.tl.b0.c31
      have f11 := L.tl.b0.fr 1
      have c12 := L.tl.b0.c32
      have f12 := L.tl.b0.fr 2
      have c20 := L.tl.tl.b0.c20
      have f20 := L.tl.tl.b0.fr 0
      have c21 := L.tl.tl.b0.c21
      have f21 := L.tl.tl.b0.fr 1
      (try go_wp2_with fail)
      refine (HV.out _ _ (isD_n L.hn)).mono ?_
      rintro e w3 ⟨rfl, be⟩
      clear c00 f00 c01 f01 c02 f02 c10 f10 c11 f11 c12 f12 c20 f20 c21 f21
      replace L := L.step be
      clear be
      have c00 := L.b0.c30
      have f00 := L.b0.fr 0
      have c01 := L.b0.c31
      have f01 := L.b0.fr 1
      have c02 := L.b0.c32
      have f02 := L.b0.fr 2
      have c10 := L.tl.b0.c30
      have f10 := L.tl.b0.fr 0
      have c11 := L.tl.b0.c31
      have f11 := L.tl.b0.fr 1
      have c12 := L.tl.b0.c32
      have f12 := L.tl.b0.fr 2
      have c20 := L.tl.tl.b0.c20
      have c21 := L.tl.tl.b0.c21
      cases ok
      · obtain ⟨rfl, rfl, rfl⟩ := HF.1 rfl
        go_wp2_with fail
        have LP := L.swap.putD (by omega) (by first | (simp; done) | (simp; omega)) false none (0) 0 (0)
        have k0 := LP.b0.c30
        have k1 := LP.b0.c31
        have k2 := LP.b0.c32
        unfold put3 at k0 k1 k2
        exact bodyPost_ret (v := .tuple #[.agg #[.bool false, .slice none (0) 0, .int .i64 (0)], .int .i64 3]) (by simp [results, Tryz.results14, go_sem, k0, k1, k2]) rfl ⟨_, rfl, isD_zero _, LP.below⟩
      · obtain ⟨rfl, rfl, rfl⟩ := HF.2 rfl
        go_wp2_with fail
        have LP := L.swap.putD (by omega) (by first | (simp; done) | (simp; omega)) (ng M2) A3 ((zl M2)) c5 (E2)
        have k0 := LP.b0.c30
        have k1 := LP.b0.c31
        have k2 := LP.b0.c32
        unfold put3 at k0 k1 k2
        exact bodyPost_ret (v := .tuple #[.agg #[.bool (ng M2), .slice A3 ((zl M2)) c5, .int .i64 (E2)], .int .i64 0]) (by simp [results, Tryz.results14, go_sem, k0, k1, k2]) rfl ⟨_, rfl, isD_n LP.hn, LP.below⟩
set_option maxHeartbeats 2000000 in
theorem dof_any (n : Int) (w : World) (h1 : -9223372036854775808 ≤ n) (h2 : n ≤ 9223372036854775807) (hT : Tab w) :
    Calls Tryz.prog 19 #[.int .i64 n] w (RetD8 w (mkM n 0) (mkE n 0)) := by
  have HO := Lib.hid (fun W => zof_any n W h1 h2)
  have HT0 := Lib.hid (fun W (hW : Below w.heap.size w W) => hT.mono hW)
  have hl : zl n ≤ 2 := len_le2 (x := n.natAbs) (by omega)
  have hm := fun v W h h2 => dmake_any n 0 v W h (by omega) h2
  generalize mkM n 0 = M at *
  generalize mkE n 0 = E at *
  generalize mkR n 0 = R at *
  have HM := Lib.hid hm
  clear hm h1 h2 hl hT
  go_enter Tryz.func19, Tryz.ntmps19
  go_wp2_with fail
  have L := ((Lq.mk0 w).varD (w.heap.size) (by simp) false none 0 0 0)
  have c00 := L.b0.c30
  have f00 := L.b0.fr 0
  have c01 := L.b0.c31
  have f01 := L.b0.fr 1
  have c02 := L.b0.c32
  have f02 := L.b0.fr 2
  (try go_wp2_with fail)
  refine (HO.out _).mono ?_
  rintro e w1 ⟨v1, rfl, iz, be⟩
  clear c00 f00 c01 f01 c02 f02
  replace L := (L.step be).z iz
  clear be iz
  have c00 := L.b0.c30
  have f00 := L.b0.fr 0
  have c01 := L.b0.c31
  have f01 := L.b0.fr 1
  have c02 := L.b0.c32
  have f02 := L.b0.fr 2
  (try go_wp2_with fail)
  refine (HM.out _ _ (L.getZ (by simp)) (HT0.out _ L.below)).mono ?_
  rintro e w2 ⟨v2, rfl, id, be⟩
  clear c00 f00 c01 f01 c02 f02
  obtain ⟨A9, c9, rfl, _, in9⟩ := id.form
  replace L := (L.step be).n in9
  clear be in9 id
  have c00 := L.b0.c30
  have f00 := L.b0.fr 0
  have c01 := L.b0.c31
  have f01 := L.b0.fr 1
  have c02 := L.b0.c32
  have f02 := L.b0.fr 2
  have hlt := L.b0.lt
  have LP0 := L.putD (by omega) (by first | (simp; done) | (simp; omega)) (ng M) A9 (zl M) c9 E
  have LP := LP0.varD _ rfl (ng M) A9 (zl M) c9 E
  have k0 := LP.tl.b0.c30
  have k1 := LP.tl.b0.c31
  have k2 := LP.tl.b0.c32
  unfold put3 at k0 k1 k2
  replace L := L.varD w2.heap.size rfl (ng M) A9 (zl M) c9 E
  have y0 := L.b0.c30
  have y1 := L.b0.c31
  have y2 := L.b0.c32
  go_wp2_with fail
  exact bodyPost_ret (v := .agg #[.bool (ng M), .slice A9 (zl M) c9, .int .i64 E]) (by simp [results, Tryz.results19, go_sem, k0, k1, k2]) rfl ⟨_, rfl, isD_n LP.hn, LP.below⟩

end Go.Proofs.YtpgiolbnmlbjbaaGreatDoor
