/- The walk of DyadicFar: whatever the input, the law returns true and turns nothing that was there. -/
import Derived.Test.YtpgiolbnmlbjbaaGreatDoorAwake8
import Derived.Test.YtpgiolbnmlbjbaaGreatDoorMillTwoD
import Derived.Test.YtpgiolbnmlbjbaaGreatDoorDyPC
import Derived.Test.YtpgiolbnmlbjbaaGreatDoorDyLaw
import Derived.Test.YtpgiolbnmlbjbaaGreatDoorRefDyC
import Derived.Test.YtpgiolbnmlbjbaaGreatDoorRefDyD
import Derived.Test.YtpgiolbnmlbjbaaGreatDoorRefDyE
import Derived.Deep.RegionHeld3
import Derived.Deep.DrawnRows
import Derived.Deep.Cut
import Derived.Deep.CutRange
namespace Go.Proofs.YtpgiolbnmlbjbaaGreatDoor
open Go.RowKit
set_option linter.unusedVariables false
set_option linter.unusedSimpArgs false
set_option maxRecDepth 100000
attribute [local go_sem ↓] Go.wp_at_zero Go.wp_at_succ

set_option maxHeartbeats 8000000 in
theorem walk_DyadicFar (b0 : Bool) (a0 : Option Addr) (len0 cap0 : Nat) (z0 : List Nat) (f0 : Int) (b1 : Bool) (a1 : Option Addr) (len1 cap1 : Nat) (z1 : List Nat) (f1 : Int) (a2 : Int) (a3 : Int) (w : World) (h0 : Sl w a0 len0 cap0 z0) (u0 : -9223372036854775808 ≤ f0) (t0 : f0 ≤ 9223372036854775807) (h1 : Sl w a1 len1 cap1 z1) (u1 : -9223372036854775808 ≤ f1) (t1 : f1 ≤ 9223372036854775807) (h2 : -9223372036854775808 ≤ a2 ∧ a2 ≤ 9223372036854775807) (h3 : -9223372036854775808 ≤ a3 ∧ a3 ≤ 9223372036854775807) (hT : Tab w) (hP : Pow10 w) :
    Calls Tryz.prog 5 #[.agg #[.bool b0, .slice a0 len0 cap0, .int .i64 f0], .agg #[.bool b1, .slice a1 len1 cap1, .int .i64 f1], .int .i64 a2, .int .i64 a3] w (fun e w' => e = .returned (.bool true) ∧ Below w.heap.size w w') := by
  go_enter Tryz.func5, Tryz.ntmps5
  go_wp2_with fail
  have L := (((Lq.mk0 w).varD (w.heap.size) (by simp) b0 a0 len0 cap0 f0).varD (w.heap.size + 1) (by simp) b1 a1 len1 cap1 f1)
  (try go_wp2_with fail)
  refine (awake8_any _ (hT.mono L.below) (hP.mono L.below)).mono ?_
  rintro e w1 ⟨rfl, be⟩
  replace L := L.step be
  clear be
  have c00 := L.b0.c30
  have c01 := L.b0.c31
  have c02 := L.b0.c32
  have c10 := L.tl.b0.c30
  have c11 := L.tl.b0.c31
  have c12 := L.tl.b0.c32
  go_wp2_with fail
  refine (two8_any b0 b1 z0 z1 a0 a1 len0 cap0 len1 cap1 f0 f1 _ (h0.mono L.below) (h1.mono L.below) u0 t0 u1 t1).mono ?_
  rintro e9 w2 ⟨vx, vy, ok, m, e, n, k, rfl, ix, iy, lm, ln, he1, he2, hk1, hk2, hv, be⟩
  clear c00 c01 c02 c10 c11 c12
  obtain ⟨A, c, rfl, izx, inx⟩ := ix.form
  obtain ⟨B, d, rfl, izy, iny⟩ := iy.form
  replace L := ((((L.step be).n iny).n inx).z izy).z izx
  clear be ix iy izx inx izy iny
  have hlt0 := L.b0.lt
  have hlt1 := L.tl.b0.lt
  replace L := (L.varD w2.heap.size rfl (ng m) A (zl m) c e).varD (w2.heap.size + 1) (by simp) (ng n) B (zl n) d k
  cases ok
  · go_wp2_with fail
    go_ret
    exact ⟨rfl, L.below⟩
  · have HV := Lib.hid (hv rfl)
    clear hv
    clear HV
    go_wp2_with fail
    obtain ⟨g, hg⟩ : ∃ g, w2.heap.size = g := ⟨_, rfl⟩
    rw [hg] at L hlt0 hlt1 ⊢
    clear hg
    obtain ⟨r1, hr1⟩ : ∃ r : Int, a2 % 131073 = r := ⟨_, rfl⟩
    obtain ⟨r2, hr2⟩ : ∃ r : Int, a3 % 131073 = r := ⟨_, rfl⟩
    have hm1 := Int.emod_nonneg a2 (show (131073 : Int) ≠ 0 by omega)
    have hm2 := Int.emod_lt_of_pos a2 (show (0 : Int) < 131073 by omega)
    have hm3 := Int.emod_nonneg a3 (show (131073 : Int) ≠ 0 by omega)
    have hm4 := Int.emod_lt_of_pos a3 (show (0 : Int) < 131073 by omega)
    have mo1 := fun W => mod_any a2 131073 W (by omega) (by omega) h2.1 h2.2
    have mo2 := fun W => mod_any a3 131073 W (by omega) (by omega) h3.1 h3.2
    rw [hr1] at mo1 hm1 hm2
    rw [hr2] at mo2 hm3 hm4
    obtain ⟨G1, hG1⟩ : ∃ G : Int, r1 - 65536 = G := ⟨_, rfl⟩
    obtain ⟨G2, hG2⟩ : ∃ G : Int, r2 - 65536 = G := ⟨_, rfl⟩
    have hw1 : IntKind.i64.wrap (r1 - 65536) = G1 := by rw [IntKind.wrap_i64]; omega
    have hw2 : IntKind.i64.wrap (r2 - 65536) = G2 := by rw [IntKind.wrap_i64]; omega
    have b1 := mkE_le (m := m) (e := G1) (K := 65536) (by omega) (by omega)
    have b2 := mkE_le (m := n) (e := G2) (K := 65536) (by omega) (by omega)
    have z1 := zl_mk m G1
    have z2 := zl_mk n G2
    have k1 := fun v W h => rmake8_any m G1 v W h (by omega)
    have k2 := fun v W h => rmake8_any n G2 v W h (by omega)
    have hT0 := Lib.hid (fun W (hW : Below w.heap.size w W) => hT.mono hW)
    clear hr1 hr2 hG1 hG2 hm1 hm2 hm3 hm4 h2 h3 he1 he2 hk1 hk2 hT hP h0 h1 u0 t0 u1 t1
    generalize mkM m G1 = M1 at *
    generalize mkE m G1 = E1 at *
    generalize mkR m G1 = R1 at *
    generalize mkM n G2 = M2 at *
    generalize mkE n G2 = E2 at *
    generalize mkR n G2 = R2 at *
    have MO1 := Lib.hid mo1
    have MO2 := Lib.hid mo2
    have K1 := Lib.hid k1
    have K2 := Lib.hid k2
    have ZX := Lib.hid (L.getZ (v := .agg #[.bool (ng m), .slice A (zl m) c]) (x := m) (by simp))
    have ZY := Lib.hid (L.getZ (v := .agg #[.bool (ng n), .slice B (zl n) d]) (x := n) (by simp))
    have hga : w.heap.size ≤ g := by omega
    have hgb : w.heap.size ≤ g + 1 := by omega
    clear mo1 mo2 k1 k2
    replace L := L.swap
    have LD := L.drew
    have c00 := L.b0.c30
    have c01 := L.b0.c31
    have c02 := L.b0.c32
    have c10 := L.tl.b0.c30
    have c11 := L.tl.b0.c31
    have c12 := L.tl.b0.c32
    have c20 := L.tl.tl.b0.c30
    have c21 := L.tl.tl.b0.c31
    have c22 := L.tl.tl.b0.c32
    have c30 := L.tl.tl.tl.b0.c30
    have c31 := L.tl.tl.tl.b0.c31
    have c32 := L.tl.tl.tl.b0.c32
    go_cut [12] from 31 to 40 (fun s12 wx => s12 = .int .i64 R1 ∧ ∃ A9 c9, Lq w wx [(.slice A9 (zl M1) c9, M1.natAbs), (.slice B (zl n) d, n.natAbs)] [(.agg #[.bool (ng n), .slice B (zl n) d], n)] [] [(g, 26, #[.bool (ng M1), .slice A9 (zl M1) c9, .int .i64 E1]), (g + 1, 26, #[.bool (ng n), .slice B (zl n) d, .int .i64 k])])
    case first =>
      go_region_with (first | (go_at_call 13; (with_reducible refine (MO1.out _).mono ?_); rintro e9 wh ⟨rfl, rfl⟩) | (go_at_call 15; (with_reducible refine (K1.out _ _ ?_).mono ?_); (· (refine LD.getZ ?_; (repeat (first | (with_reducible exact List.mem_cons_self) | apply List.mem_cons_of_mem)))); rintro e9 wh ⟨vh, rfl, id, be⟩; obtain ⟨A9, c9, rfl, _, in9⟩ := id.form; replace LD := (LD.step be).n in9; clear be id in9; (try (have r0 := LD.b0.c30; have r1 := LD.b0.c31; have r2 := LD.b0.c32; have s0 := LD.b0.fr 0; have s1 := LD.b0.fr 1; have s2 := LD.b0.fr 2))))
      all_goals
        have LP := LD.putD hga (by first | (simp; done) | (simp; omega)) (ng M1) A9 (zl M1) c9 E1
        unfold put3 at LP
        go_wp2_with fail
        go_meet
        exact ⟨rfl, _, _, ((((((Lq.mk0 w).step LP.below).n (LP.getN (v := .slice B (zl n) d) (by simp))).n LP.hn).z (LP.getZ (v := .agg #[.bool (ng n), .slice B (zl n) d]) (by simp))).b LP.tl.b0).b LP.b0⟩
    case rest =>
      clear L LD ZX ZY
      obtain ⟨rfl, A, c, L⟩ := hcut
      generalize wc = wd at *
      have c00 := L.b0.c30
      have c01 := L.b0.c31
      have c02 := L.b0.c32
      have c10 := L.tl.b0.c30
      have c11 := L.tl.b0.c31
      have c12 := L.tl.b0.c32
      go_wp2_with fail
      replace L := L.swap
      have LD := L.drew
      clear c00 c01 c02 c10 c11 c12
      have c00 := L.b0.c30
      have c01 := L.b0.c31
      have c02 := L.b0.c32
      have c10 := L.tl.b0.c30
      have c11 := L.tl.b0.c31
      have c12 := L.tl.b0.c32
      go_cut [13] from 40 to 49 (fun s12 wx => s12 = .int .i64 R2 ∧ ∃ A9 c9, Lq w wx [(.slice A9 (zl M2) c9, M2.natAbs), (.slice A (zl M1) c, M1.natAbs)] [] [] [(g + 1, 26, #[.bool (ng M2), .slice A9 (zl M2) c9, .int .i64 E2]), (g, 26, #[.bool (ng M1), .slice A (zl M1) c, .int .i64 E1])])
      case first =>
        go_region_with (first | (go_at_call 13; (with_reducible refine (MO2.out _).mono ?_); rintro e9 wh ⟨rfl, rfl⟩) | (go_at_call 15; (with_reducible refine (K2.out _ _ ?_).mono ?_); (· (refine LD.getZ ?_; (repeat (first | (with_reducible exact List.mem_cons_self) | apply List.mem_cons_of_mem)))); rintro e9 wh ⟨vh, rfl, id, be⟩; obtain ⟨A9, c9, rfl, _, in9⟩ := id.form; replace LD := (LD.step be).n in9; clear be id in9; (try (have r0 := LD.b0.c30; have r1 := LD.b0.c31; have r2 := LD.b0.c32; have s0 := LD.b0.fr 0; have s1 := LD.b0.fr 1; have s2 := LD.b0.fr 2))))
        all_goals
          have LP := LD.putD hgb (by first | (simp; done) | (simp; omega)) (ng M2) A9 (zl M2) c9 E2
          unfold put3 at LP
          go_wp2_with fail
          go_meet
          exact ⟨rfl, _, _, ((((((Lq.mk0 w).step LP.below).n (LP.getN (v := .slice A (zl M1) c) (by simp))).n LP.hn).b LP.tl.b0).b LP.b0)⟩
      case rest =>
        clear L LD
        obtain ⟨rfl, B, d, L⟩ := hcut
        generalize wc = wd at *
        have c00 := L.b0.c30
        have c01 := L.b0.c31
        have c02 := L.b0.c32
        have c10 := L.tl.b0.c30
        have c11 := L.tl.b0.c31
        have c12 := L.tl.b0.c32
        by_cases q1 : R1 = 0
        · subst q1
          by_cases q2 : R2 = 0
          · subst q2
            have s1 := fun v u W h1 h2 (hW : Below w.heap.size w W) => dadd_any M1 E1 M2 E2 v u W h1 h2 (by omega) (by omega) (by omega) (by omega) (hT0.out W hW)
            have s2 := fun v u W h1 h2 => radd8_any M1 E1 M2 E2 v u W h1 h2 (by omega) (by omega) (by omega) (by omega)
            have s3 := fun v u W h1 h2 (hW : Below w.heap.size w W) => dmul_any M1 E1 M2 E2 v u W h1 h2 (by omega) (by omega) (by omega) (by omega) (hT0.out W hW)
            have s4 := fun v u W h1 h2 => rmul8_any M1 E1 M2 E2 v u W h1 h2 (by omega) (by omega) (by omega) (by omega)
            have H5 := Lib.hid (fun v u W h1 h2 => dcmp_any M1 E1 M2 E2 v u W h1 h2 (by omega) (by omega) (by omega) (by omega))
            have H6 := Lib.hid (fun v u W h1 h2 => rcmp8_any M1 E1 M2 E2 v u W h1 h2 (by omega) (by omega) (by omega) (by omega))
            generalize mkM (addS M1 E1 M2 E2) (min E1 E2) = PM at *
            generalize mkE (addS M1 E1 M2 E2) (min E1 E2) = PE at *
            generalize mkR (addS M1 E1 M2 E2) (min E1 E2) = PR at *
            generalize mkM (M1 * M2) (E1 + E2) = QM at *
            generalize mkE (M1 * M2) (E1 + E2) = QE at *
            generalize mkR (M1 * M2) (E1 + E2) = QR at *
            generalize cmpI (M1 * 2 ^ (E1 - min E1 E2).toNat) (M2 * 2 ^ (E2 - min E1 E2).toNat) = KK at *
            have s7 := fun v u W h1 h2 => same8_any PM PE PM PE v u W h1 h2
            rw [decide_eq_true (rfl : PM = PM), decide_eq_true (rfl : PE = PE), Bool.true_and] at s7
            have s8 := fun v u W h1 h2 => same8_any QM QE QM QE v u W h1 h2
            rw [decide_eq_true (rfl : QM = QM), decide_eq_true (rfl : QE = QE), Bool.true_and] at s8
            have H1 := Lib.hid s1
            have H2 := Lib.hid s2
            have H3 := Lib.hid s3
            have H4 := Lib.hid s4
            have H7 := Lib.hid s7
            have H8 := Lib.hid s8
            clear s1 s2 s3 s4 s7 s8 b1 b2 z1 z2 lm ln hlt0 hlt1 K1 K2 MO1 MO2
            go_wp2_with fail
            refine (H1.out _ _ _ (isD_n (s := .slice A (zl M1) c) (L.getN (by simp))) (isD_n (s := .slice B (zl M2) d) (L.getN (by simp))) L.below).mono ?_
            rintro e w3 ⟨vy, rfl, id, be⟩
            clear c00 c01 c02 c10 c11 c12
            obtain ⟨A3, c3, rfl, _, in9⟩ := id.form
            replace L := (L.step be).n in9
            clear be id in9
            replace L := L.varD w3.heap.size rfl (ng PM) A3 (zl PM) c3 PE
            have c00 := L.b0.c30
            have c01 := L.b0.c31
            have c02 := L.b0.c32
            have c10 := L.tl.b0.c30
            have c11 := L.tl.b0.c31
            have c12 := L.tl.b0.c32
            have c20 := L.tl.tl.b0.c30
            have c21 := L.tl.tl.b0.c31
            have c22 := L.tl.tl.b0.c32
            go_wp2_with fail
            obtain ⟨g3, hg⟩ : ∃ g, w3.heap.size = g := ⟨_, rfl⟩
            rw [hg] at L c00 c01 c02 ⊢
            clear hg
            refine (H2.out _ _ _ (isD_n (s := .slice A (zl M1) c) (L.getN (by simp))) (isD_n (s := .slice B (zl M2) d) (L.getN (by simp)))).mono ?_
            rintro e w4 ⟨vy, rfl, id, be⟩
            clear c00 c01 c02 c10 c11 c12 c20 c21 c22
            obtain ⟨A4, c4, rfl, _, in9⟩ := id.form
            replace L := (L.step be).n in9
            clear be id in9
            replace L := L.varD w4.heap.size rfl (ng PM) A4 (zl PM) c4 PE
            have c00 := L.b0.c30
            have c01 := L.b0.c31
            have c02 := L.b0.c32
            have c10 := L.tl.b0.c30
            have c11 := L.tl.b0.c31
            have c12 := L.tl.b0.c32
            have c20 := L.tl.tl.b0.c30
            have c21 := L.tl.tl.b0.c31
            have c22 := L.tl.tl.b0.c32
            have c30 := L.tl.tl.tl.b0.c30
            have c31 := L.tl.tl.tl.b0.c31
            have c32 := L.tl.tl.tl.b0.c32
            go_wp2_with fail
            obtain ⟨g4, hg⟩ : ∃ g, w4.heap.size = g := ⟨_, rfl⟩
            rw [hg] at L c00 c01 c02 ⊢
            clear hg
            refine (H3.out _ _ _ (isD_n (s := .slice A (zl M1) c) (L.getN (by simp))) (isD_n (s := .slice B (zl M2) d) (L.getN (by simp))) L.below).mono ?_
            rintro e w5 ⟨vy, rfl, id, be⟩
            clear c00 c01 c02 c10 c11 c12 c20 c21 c22 c30 c31 c32
            obtain ⟨A5, c5, rfl, _, in9⟩ := id.form
            replace L := (L.step be).n in9
            clear be id in9
            replace L := L.varD w5.heap.size rfl (ng QM) A5 (zl QM) c5 QE
            have c00 := L.b0.c30
            have c01 := L.b0.c31
            have c02 := L.b0.c32
            have c10 := L.tl.b0.c30
            have c11 := L.tl.b0.c31
            have c12 := L.tl.b0.c32
            have c20 := L.tl.tl.b0.c30
            have c21 := L.tl.tl.b0.c31
            have c22 := L.tl.tl.b0.c32
            have c30 := L.tl.tl.tl.b0.c30
            have c31 := L.tl.tl.tl.b0.c31
            have c32 := L.tl.tl.tl.b0.c32
            have c40 := L.tl.tl.tl.tl.b0.c30
            have c41 := L.tl.tl.tl.tl.b0.c31
            have c42 := L.tl.tl.tl.tl.b0.c32
            go_wp2_with fail
            obtain ⟨g5, hg⟩ : ∃ g, w5.heap.size = g := ⟨_, rfl⟩
            rw [hg] at L c00 c01 c02 ⊢
            clear hg
            refine (H4.out _ _ _ (isD_n (s := .slice A (zl M1) c) (L.getN (by simp))) (isD_n (s := .slice B (zl M2) d) (L.getN (by simp)))).mono ?_
            rintro e w6 ⟨vy, rfl, id, be⟩
            clear c00 c01 c02 c10 c11 c12 c20 c21 c22 c30 c31 c32 c40 c41 c42
            obtain ⟨A6, c6, rfl, _, in9⟩ := id.form
            replace L := (L.step be).n in9
            clear be id in9
            replace L := L.varD w6.heap.size rfl (ng QM) A6 (zl QM) c6 QE
            have c00 := L.b0.c30
            have c01 := L.b0.c31
            have c02 := L.b0.c32
            have c10 := L.tl.b0.c30
            have c11 := L.tl.b0.c31
            have c12 := L.tl.b0.c32
            have c20 := L.tl.tl.b0.c30
            have c21 := L.tl.tl.b0.c31
            have c22 := L.tl.tl.b0.c32
            have c30 := L.tl.tl.tl.b0.c30
            have c31 := L.tl.tl.tl.b0.c31
            have c32 := L.tl.tl.tl.b0.c32
            have c40 := L.tl.tl.tl.tl.b0.c30
            have c41 := L.tl.tl.tl.tl.b0.c31
            have c42 := L.tl.tl.tl.tl.b0.c32
            have c50 := L.tl.tl.tl.tl.tl.b0.c30
            have c51 := L.tl.tl.tl.tl.tl.b0.c31
            have c52 := L.tl.tl.tl.tl.tl.b0.c32
            go_wp2_with fail
            obtain ⟨g6, hg⟩ : ∃ g, w6.heap.size = g := ⟨_, rfl⟩
            rw [hg] at L c00 c01 c02 ⊢
            clear hg
            replace L := L.drew
            clear c00 c01 c02 c10 c11 c12 c20 c21 c22 c30 c31 c32 c40 c41 c42 c50 c51 c52
            have c00 := L.b0.c30
            have c01 := L.b0.c31
            have c02 := L.b0.c32
            have c10 := L.tl.b0.c30
            have c11 := L.tl.b0.c31
            have c12 := L.tl.b0.c32
            have c20 := L.tl.tl.b0.c30
            have c21 := L.tl.tl.b0.c31
            have c22 := L.tl.tl.b0.c32
            have c30 := L.tl.tl.tl.b0.c30
            have c31 := L.tl.tl.tl.b0.c31
            have c32 := L.tl.tl.tl.b0.c32
            have c40 := L.tl.tl.tl.tl.b0.c30
            have c41 := L.tl.tl.tl.tl.b0.c31
            have c42 := L.tl.tl.tl.tl.b0.c32
            have c50 := L.tl.tl.tl.tl.tl.b0.c30
            have c51 := L.tl.tl.tl.tl.tl.b0.c31
            have c52 := L.tl.tl.tl.tl.tl.b0.c32
            go_region_held3 (fun w' => w'.cell? ⟨g, 0, none⟩ = some (.bool (ng M1)) ∧ w'.cell? ⟨g, 1, none⟩ = some (.slice A (zl M1) c) ∧ w'.cell? ⟨g, 2, none⟩ = some (.int .i64 E1) ∧ w'.cell? ⟨g + 1, 0, none⟩ = some (.bool (ng M2)) ∧ w'.cell? ⟨g + 1, 1, none⟩ = some (.slice B (zl M2) d) ∧ w'.cell? ⟨g + 1, 2, none⟩ = some (.int .i64 E2) ∧ w'.cell? ⟨g3, 0, none⟩ = some (.bool (ng PM)) ∧ w'.cell? ⟨g3, 1, none⟩ = some (.slice A3 (zl PM) c3) ∧ w'.cell? ⟨g3, 2, none⟩ = some (.int .i64 PE) ∧ w'.cell? ⟨g4, 0, none⟩ = some (.bool (ng PM)) ∧ w'.cell? ⟨g4, 1, none⟩ = some (.slice A4 (zl PM) c4) ∧ w'.cell? ⟨g4, 2, none⟩ = some (.int .i64 PE) ∧ w'.cell? ⟨g5, 0, none⟩ = some (.bool (ng QM)) ∧ w'.cell? ⟨g5, 1, none⟩ = some (.slice A5 (zl QM) c5) ∧ w'.cell? ⟨g5, 2, none⟩ = some (.int .i64 QE) ∧ w'.cell? ⟨g6, 0, none⟩ = some (.bool (ng QM)) ∧ w'.cell? ⟨g6, 1, none⟩ = some (.slice A6 (zl QM) c6) ∧ w'.cell? ⟨g6, 2, none⟩ = some (.int .i64 QE)) (first | (with_reducible exact ⟨L.tl.tl.tl.tl.tl.b0.c30, L.tl.tl.tl.tl.tl.b0.c31, L.tl.tl.tl.tl.tl.b0.c32, L.tl.tl.tl.tl.b0.c30, L.tl.tl.tl.tl.b0.c31, L.tl.tl.tl.tl.b0.c32, L.tl.tl.tl.b0.c30, L.tl.tl.tl.b0.c31, L.tl.tl.tl.b0.c32, L.tl.tl.b0.c30, L.tl.tl.b0.c31, L.tl.tl.b0.c32, L.tl.b0.c30, L.tl.b0.c31, L.tl.b0.c32, L.b0.c30, L.b0.c31, L.b0.c32⟩) | exact ⟨L.tl.tl.tl.tl.tl.b0.c30, L.tl.tl.tl.tl.tl.b0.c31, L.tl.tl.tl.tl.tl.b0.c32, L.tl.tl.tl.tl.b0.c30, L.tl.tl.tl.tl.b0.c31, L.tl.tl.tl.tl.b0.c32, L.tl.tl.tl.b0.c30, L.tl.tl.tl.b0.c31, L.tl.tl.tl.b0.c32, L.tl.tl.b0.c30, L.tl.tl.b0.c31, L.tl.tl.b0.c32, L.tl.b0.c30, L.tl.b0.c31, L.tl.b0.c32, L.b0.c30, L.b0.c31, L.b0.c32⟩) (first | (go_at_call 16; (with_reducible refine (H7.out _ _ _ ?_ ?_ ).mono ?_); (· (refine isD_n (L.getN ?_); (repeat (first | (with_reducible exact List.mem_cons_self) | apply List.mem_cons_of_mem)))); (· (refine isD_n (L.getN ?_); (repeat (first | (with_reducible exact List.mem_cons_self) | apply List.mem_cons_of_mem)))); rintro e wh ⟨rfl, be⟩; replace L := L.step be; clear be) | (go_at_call 16; (with_reducible refine (H8.out _ _ _ ?_ ?_ ).mono ?_); (· (refine isD_n (L.getN ?_); (repeat (first | (with_reducible exact List.mem_cons_self) | apply List.mem_cons_of_mem)))); (· (refine isD_n (L.getN ?_); (repeat (first | (with_reducible exact List.mem_cons_self) | apply List.mem_cons_of_mem)))); rintro e wh ⟨rfl, be⟩; replace L := L.step be; clear be) | (go_at_call 35; (with_reducible refine (H5.out _ _ _ ?_ ?_ ).mono ?_); (· (refine isD_n (L.getN ?_); (repeat (first | (with_reducible exact List.mem_cons_self) | apply List.mem_cons_of_mem)))); (· (refine isD_n (L.getN ?_); (repeat (first | (with_reducible exact List.mem_cons_self) | apply List.mem_cons_of_mem)))); rintro e wh ⟨rfl, be⟩; replace L := L.step be; clear be) | (go_at_call 36; (with_reducible refine (H6.out _ _ _ ?_ ?_ ).mono ?_); (· (refine isD_n (L.getN ?_); (repeat (first | (with_reducible exact List.mem_cons_self) | apply List.mem_cons_of_mem)))); (· (refine isD_n (L.getN ?_); (repeat (first | (with_reducible exact List.mem_cons_self) | apply List.mem_cons_of_mem)))); rintro e wh ⟨rfl, be⟩; replace L := L.step be; clear be))
            clear c00 c01 c02 c10 c11 c12 c20 c21 c22 c30 c31 c32 c40 c41 c42 c50 c51 c52
            go_wp2_with fail
            go_ret
            exact ⟨rfl, L.below⟩
          · have q3 : (R2 != 0) = true := by simpa using q2
            have q4 : (R2 == 0) = false := by simpa using q2
            go_wp2_with fail
            go_ret
            exact ⟨rfl, L.below⟩
        · have q3 : (R1 != 0) = true := by simpa using q1
          have q4 : (R1 == 0) = false := by simpa using q1
          go_wp2_with fail
          go_ret
          exact ⟨rfl, L.below⟩

end Go.Proofs.YtpgiolbnmlbjbaaGreatDoor
