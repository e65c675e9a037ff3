/- The walk of GridBounds: whatever the input, the law returns true and turns nothing that was there. -/
import Derived.Test.YtgjljalcgiddgaaDoorAwake9
import Derived.Test.YtgjljalcgiddgaaDoorGrBndC
import Derived.Test.YtgjljalcgiddgaaDoorRegCut
import Derived.Test.YtgjljalcgiddgaaDoorBaseE
import Derived.Test.YtgjljalcgiddgaaDoorBaseM
import Derived.Deep.RegionHeld3
import Derived.Deep.DrawnRows
import Derived.Deep.Cut
import Derived.Deep.CutRange
namespace Go.Proofs.YtgjljalcgiddgaaDoor
open Go.RowKit
set_option linter.unusedVariables false
set_option linter.unusedSimpArgs false
set_option maxRecDepth 100000
attribute [local go_sem ↓] Go.wp_at_zero Go.wp_at_succ

set_option maxHeartbeats 16000000 in
theorem walk_GridBounds (b0 : Bool) (a0 : Option Addr) (len0 cap0 : Nat) (z0 : List Nat) (f0 : Int) (a1 : Int) (w : World) (h0 : Sl w a0 len0 cap0 z0) (u0 : -9223372036854775808 ≤ f0) (t0 : f0 ≤ 9223372036854775807) (h1 : -9223372036854775808 ≤ a1 ∧ a1 ≤ 9223372036854775807) (hT : Tab w) :
    Calls Tryd.prog 4 #[.agg #[.bool b0, .slice a0 len0 cap0, .int .i64 f0], .int .i64 a1] w (fun e w' => e = .returned (.bool true) ∧ Below w.heap.size w w') := by
  have hm1 := Int.emod_nonneg a1 (show (400 : Int) ≠ 0 by omega)
  have hm2 := Int.emod_lt_of_pos a1 (show (0 : Int) < 400 by omega)
  have mo1 := fun W => mod_any a1 400 W (by omega) (by omega) h1.1 h1.2
  obtain ⟨r, hr⟩ : ∃ r, a1 % 400 = r := ⟨_, rfl⟩
  rw [hr] at mo1 hm1 hm2
  obtain ⟨p, hpp⟩ : ∃ p, r - 100 = p := ⟨_, rfl⟩
  have hw1 : IntKind.i64.wrap (r - 100) = p := by rw [← hpp, IntKind.wrap_i64]; omega
  have hpa : -100 ≤ p := by omega
  have hpb : p < 300 := by omega
  have hw2 : IntKind.i64.wrap (p + 1) = p + 1 := by rw [IntKind.wrap_i64]; omega
  have MO1 := Lib.hid mo1
  have HT := Lib.hid (fun W (hW : Below w.heap.size w W) => hT.mono hW)
  clear mo1 hr hpp hm1 hm2 h1
  go_enter Tryd.func4, Tryd.ntmps4
  go_wp2_with fail
  have L := ((Lq.mk0 w).varD (w.heap.size) (by simp) b0 a0 len0 cap0 f0)
  (try go_wp2_with fail)
  refine (awake9_any _ (hT.mono L.below)).mono ?_
  rintro e9 w1 ⟨rfl, be⟩
  replace L := L.step be
  clear be
  have c00 := L.b0.c30
  have c01 := L.b0.c31
  have c02 := L.b0.c32
  (try go_wp2_with fail)
  refine (millD_any b0 z0 8 300 a0 len0 cap0 f0 _ (h0.mono L.below) (by omega) (by omega) u0 t0).mono ?_
  rintro e9 w2 ⟨vx, ok, m, e, rfl, ix, lm, he1, he2, hv, be⟩
  clear c00 c01 c02
  obtain ⟨A, c, rfl, izx, inx⟩ := ix.form
  replace L := ((L.step be).n inx).z izx
  clear be ix izx inx
  have hlt0 := L.b0.lt
  replace L := L.varD w2.heap.size rfl (ng m) A (zl m) c e
  cases ok
  · go_wp2_with fail
    go_ret
    exact ⟨rfl, L.below⟩
  · have HV := Lib.hid (hv rfl)
    clear hv
    go_wp2_with fail
    refine (MO1.out _).mono ?_
    rintro e9 w' ⟨rfl, rfl⟩
    have HB := bndC m e p w (by omega) (by omega) (by omega) HV.out hpa hpb hT
    obtain ⟨M1, E1, M2, E2, M3, E3, M4, E4, M5, E5, KK, S1, S2, S3, dn, un, fn, gn, qn, xn, yn, zn, Un, Hn, dd, ud, fd, qd, xd, yd, zd, Ud, Hd, ob, sn1, sn2, sn3, hfin, H_x1, H_x2, H_x3, H_x4, H_x5, H_on0, H_on1, H_on2, H_on3, H_rq0, H_rq1, H_rq2, H_rq3, H_rq4, H_rq5, H_sb1, H_sb2, H_sb3, H_sg1, H_sg2, H_cp1, H_cp2, H_cp3, H_cp4, H_ng3, H_cm⟩ := HB
    clear HV lm he1 he2 hT h0 u0
    have c00 := L.b0.c30
    have c01 := L.b0.c31
    have c02 := L.b0.c32
    have c10 := L.tl.b0.c30
    have c11 := L.tl.b0.c31
    have c12 := L.tl.b0.c32
    go_wp2_with fail
    obtain ⟨g, hg⟩ : ∃ g, w2.heap.size = g := ⟨_, rfl⟩
    rw [hg] at L hlt0 c00 c01 c02 ⊢
    clear hg
    refine (H_x1.out _ _ (isD_n (s := .slice A (zl m) c) (L.getN (by simp))) L.below).mono ?_
    rintro e w3 ⟨vy, rfl, id, be⟩
    clear c00 c01 c02 c10 c11 c12
    obtain ⟨A3, c3, rfl, _, in9⟩ := id.form
    replace L := (L.step be).n in9
    clear be id in9
    replace L := L.varD w3.heap.size rfl (ng M1) A3 (zl M1) c3 E1
    have c00 := L.b0.c30
    have c01 := L.b0.c31
    have c02 := L.b0.c32
    have c10 := L.tl.b0.c30
    have c11 := L.tl.b0.c31
    have c12 := L.tl.b0.c32
    have c20 := L.tl.tl.b0.c30
    have c21 := L.tl.tl.b0.c31
    have c22 := L.tl.tl.b0.c32
    go_wp2_with fail
    obtain ⟨g3, hg⟩ : ∃ g, w3.heap.size = g := ⟨_, rfl⟩
    rw [hg] at L c00 c01 c02 ⊢
    clear hg
    refine (H_x2.out _ _ (isD_n (s := .slice A (zl m) c) (L.getN (by simp))) L.below).mono ?_
    rintro e w4 ⟨vy, rfl, id, be⟩
    clear c00 c01 c02 c10 c11 c12 c20 c21 c22
    obtain ⟨A4, c4, rfl, _, in9⟩ := id.form
    replace L := (L.step be).n in9
    clear be id in9
    replace L := L.varD w4.heap.size rfl (ng M2) A4 (zl M2) c4 E2
    have c00 := L.b0.c30
    have c01 := L.b0.c31
    have c02 := L.b0.c32
    have c10 := L.tl.b0.c30
    have c11 := L.tl.b0.c31
    have c12 := L.tl.b0.c32
    have c20 := L.tl.tl.b0.c30
    have c21 := L.tl.tl.b0.c31
    have c22 := L.tl.tl.b0.c32
    have c30 := L.tl.tl.tl.b0.c30
    have c31 := L.tl.tl.tl.b0.c31
    have c32 := L.tl.tl.tl.b0.c32
    go_wp2_with fail
    obtain ⟨g4, hg⟩ : ∃ g, w4.heap.size = g := ⟨_, rfl⟩
    rw [hg] at L c00 c01 c02 ⊢
    clear hg
    refine (H_x3.out _ _ (isD_n (s := .slice A (zl m) c) (L.getN (by simp))) L.below).mono ?_
    rintro e w5 ⟨vy, rfl, id, be⟩
    clear c00 c01 c02 c10 c11 c12 c20 c21 c22 c30 c31 c32
    obtain ⟨A5, c5, rfl, _, in9⟩ := id.form
    replace L := (L.step be).n in9
    clear be id in9
    replace L := L.varD w5.heap.size rfl (ng M3) A5 (zl M3) c5 E3
    have c00 := L.b0.c30
    have c01 := L.b0.c31
    have c02 := L.b0.c32
    have c10 := L.tl.b0.c30
    have c11 := L.tl.b0.c31
    have c12 := L.tl.b0.c32
    have c20 := L.tl.tl.b0.c30
    have c21 := L.tl.tl.b0.c31
    have c22 := L.tl.tl.b0.c32
    have c30 := L.tl.tl.tl.b0.c30
    have c31 := L.tl.tl.tl.b0.c31
    have c32 := L.tl.tl.tl.b0.c32
    have c40 := L.tl.tl.tl.tl.b0.c30
    have c41 := L.tl.tl.tl.tl.b0.c31
    have c42 := L.tl.tl.tl.tl.b0.c32
    go_wp2_with fail
    obtain ⟨g5, hg⟩ : ∃ g, w5.heap.size = g := ⟨_, rfl⟩
    rw [hg] at L c00 c01 c02 ⊢
    clear hg
    refine (H_x4.out _ L.below).mono ?_
    rintro e w6 ⟨vy, rfl, id, be⟩
    clear c00 c01 c02 c10 c11 c12 c20 c21 c22 c30 c31 c32 c40 c41 c42
    obtain ⟨A6, c6, rfl, _, in9⟩ := id.form
    replace L := (L.step be).n in9
    clear be id in9
    replace L := L.varD w6.heap.size rfl (ng M4) A6 (zl M4) c6 E4
    have c00 := L.b0.c30
    have c01 := L.b0.c31
    have c02 := L.b0.c32
    have c10 := L.tl.b0.c30
    have c11 := L.tl.b0.c31
    have c12 := L.tl.b0.c32
    have c20 := L.tl.tl.b0.c30
    have c21 := L.tl.tl.b0.c31
    have c22 := L.tl.tl.b0.c32
    have c30 := L.tl.tl.tl.b0.c30
    have c31 := L.tl.tl.tl.b0.c31
    have c32 := L.tl.tl.tl.b0.c32
    have c40 := L.tl.tl.tl.tl.b0.c30
    have c41 := L.tl.tl.tl.tl.b0.c31
    have c42 := L.tl.tl.tl.tl.b0.c32
    have c50 := L.tl.tl.tl.tl.tl.b0.c30
    have c51 := L.tl.tl.tl.tl.tl.b0.c31
    have c52 := L.tl.tl.tl.tl.tl.b0.c32
    go_wp2_with fail
    obtain ⟨g6, hg⟩ : ∃ g, w6.heap.size = g := ⟨_, rfl⟩
    rw [hg] at L c00 c01 c02 ⊢
    clear hg
    refine (H_x5.out _ L.below).mono ?_
    rintro e w7 ⟨vy, rfl, id, be⟩
    clear c00 c01 c02 c10 c11 c12 c20 c21 c22 c30 c31 c32 c40 c41 c42 c50 c51 c52
    obtain ⟨A7, c7, rfl, _, in9⟩ := id.form
    replace L := (L.step be).n in9
    clear be id in9
    replace L := L.varD w7.heap.size rfl (ng M5) A7 (zl M5) c7 E5
    have c00 := L.b0.c30
    have c01 := L.b0.c31
    have c02 := L.b0.c32
    have c10 := L.tl.b0.c30
    have c11 := L.tl.b0.c31
    have c12 := L.tl.b0.c32
    have c20 := L.tl.tl.b0.c30
    have c21 := L.tl.tl.b0.c31
    have c22 := L.tl.tl.b0.c32
    have c30 := L.tl.tl.tl.b0.c30
    have c31 := L.tl.tl.tl.b0.c31
    have c32 := L.tl.tl.tl.b0.c32
    have c40 := L.tl.tl.tl.tl.b0.c30
    have c41 := L.tl.tl.tl.tl.b0.c31
    have c42 := L.tl.tl.tl.tl.b0.c32
    have c50 := L.tl.tl.tl.tl.tl.b0.c30
    have c51 := L.tl.tl.tl.tl.tl.b0.c31
    have c52 := L.tl.tl.tl.tl.tl.b0.c32
    have c60 := L.tl.tl.tl.tl.tl.tl.b0.c30
    have c61 := L.tl.tl.tl.tl.tl.tl.b0.c31
    have c62 := L.tl.tl.tl.tl.tl.tl.b0.c32
    go_wp2_with fail
    obtain ⟨g7, hg⟩ : ∃ g, w7.heap.size = g := ⟨_, rfl⟩
    rw [hg] at L c00 c01 c02 ⊢
    clear hg
    refine (H_on1.out _ _ (isD_n (s := .slice A3 (zl M1) c3) (L.getN (by simp)))).mono ?_
    rintro e w8 ⟨rfl, be⟩
    clear c00 c01 c02 c10 c11 c12 c20 c21 c22 c30 c31 c32 c40 c41 c42 c50 c51 c52 c60 c61 c62
    replace L := L.step be
    clear be
    have c00 := L.b0.c30
    have c01 := L.b0.c31
    have c02 := L.b0.c32
    have c10 := L.tl.b0.c30
    have c11 := L.tl.b0.c31
    have c12 := L.tl.b0.c32
    have c20 := L.tl.tl.b0.c30
    have c21 := L.tl.tl.b0.c31
    have c22 := L.tl.tl.b0.c32
    have c30 := L.tl.tl.tl.b0.c30
    have c31 := L.tl.tl.tl.b0.c31
    have c32 := L.tl.tl.tl.b0.c32
    have c40 := L.tl.tl.tl.tl.b0.c30
    have c41 := L.tl.tl.tl.tl.b0.c31
    have c42 := L.tl.tl.tl.tl.b0.c32
    have c50 := L.tl.tl.tl.tl.tl.b0.c30
    have c51 := L.tl.tl.tl.tl.tl.b0.c31
    have c52 := L.tl.tl.tl.tl.tl.b0.c32
    have c60 := L.tl.tl.tl.tl.tl.tl.b0.c30
    have c61 := L.tl.tl.tl.tl.tl.tl.b0.c31
    have c62 := L.tl.tl.tl.tl.tl.tl.b0.c32
    go_wp2_with fail
    refine (H_on2.out _ _ (isD_n (s := .slice A4 (zl M2) c4) (L.getN (by simp)))).mono ?_
    rintro e w9 ⟨rfl, be⟩
    clear c00 c01 c02 c10 c11 c12 c20 c21 c22 c30 c31 c32 c40 c41 c42 c50 c51 c52 c60 c61 c62
    replace L := L.step be
    clear be
    have c00 := L.b0.c30
    have c01 := L.b0.c31
    have c02 := L.b0.c32
    have c10 := L.tl.b0.c30
    have c11 := L.tl.b0.c31
    have c12 := L.tl.b0.c32
    have c20 := L.tl.tl.b0.c30
    have c21 := L.tl.tl.b0.c31
    have c22 := L.tl.tl.b0.c32
    have c30 := L.tl.tl.tl.b0.c30
    have c31 := L.tl.tl.tl.b0.c31
    have c32 := L.tl.tl.tl.b0.c32
    have c40 := L.tl.tl.tl.tl.b0.c30
    have c41 := L.tl.tl.tl.tl.b0.c31
    have c42 := L.tl.tl.tl.tl.b0.c32
    have c50 := L.tl.tl.tl.tl.tl.b0.c30
    have c51 := L.tl.tl.tl.tl.tl.b0.c31
    have c52 := L.tl.tl.tl.tl.tl.b0.c32
    have c60 := L.tl.tl.tl.tl.tl.tl.b0.c30
    have c61 := L.tl.tl.tl.tl.tl.tl.b0.c31
    have c62 := L.tl.tl.tl.tl.tl.tl.b0.c32
    go_wp2_with fail
    refine (H_on3.out _ _ (isD_n (s := .slice A5 (zl M3) c5) (L.getN (by simp)))).mono ?_
    rintro e w10 ⟨rfl, be⟩
    clear c00 c01 c02 c10 c11 c12 c20 c21 c22 c30 c31 c32 c40 c41 c42 c50 c51 c52 c60 c61 c62
    replace L := L.step be
    clear be
    have c00 := L.b0.c30
    have c01 := L.b0.c31
    have c02 := L.b0.c32
    have c10 := L.tl.b0.c30
    have c11 := L.tl.b0.c31
    have c12 := L.tl.b0.c32
    have c20 := L.tl.tl.b0.c30
    have c21 := L.tl.tl.b0.c31
    have c22 := L.tl.tl.b0.c32
    have c30 := L.tl.tl.tl.b0.c30
    have c31 := L.tl.tl.tl.b0.c31
    have c32 := L.tl.tl.tl.b0.c32
    have c40 := L.tl.tl.tl.tl.b0.c30
    have c41 := L.tl.tl.tl.tl.b0.c31
    have c42 := L.tl.tl.tl.tl.b0.c32
    have c50 := L.tl.tl.tl.tl.tl.b0.c30
    have c51 := L.tl.tl.tl.tl.tl.b0.c31
    have c52 := L.tl.tl.tl.tl.tl.b0.c32
    have c60 := L.tl.tl.tl.tl.tl.tl.b0.c30
    have c61 := L.tl.tl.tl.tl.tl.tl.b0.c31
    have c62 := L.tl.tl.tl.tl.tl.tl.b0.c32
    go_wp2_with fail
    clear c00 c01 c02 c10 c11 c12 c20 c21 c22 c30 c31 c32 c40 c41 c42 c50 c51 c52 c60 c61 c62
    have Q0 := Lib.hid (fun Z (hZ : Below w10.heap.size w10 Z) => (L.tl.tl.tl.tl.tl.b0.mono hZ).c30)
    have Q1 := Lib.hid (fun Z (hZ : Below w10.heap.size w10 Z) => (L.tl.tl.tl.tl.tl.b0.mono hZ).c31)
    have Q2 := Lib.hid (fun Z (hZ : Below w10.heap.size w10 Z) => (L.tl.tl.tl.tl.tl.b0.mono hZ).c32)
    have Q3 := Lib.hid (fun Z (hZ : Below w10.heap.size w10 Z) => (L.tl.b0.mono hZ).c30)
    have Q4 := Lib.hid (fun Z (hZ : Below w10.heap.size w10 Z) => (L.tl.b0.mono hZ).c31)
    have Q5 := Lib.hid (fun Z (hZ : Below w10.heap.size w10 Z) => (L.tl.b0.mono hZ).c32)
    have Q6 := Lib.hid (fun Z (hZ : Below w10.heap.size w10 Z) => (L.b0.mono hZ).c30)
    have Q7 := Lib.hid (fun Z (hZ : Below w10.heap.size w10 Z) => (L.b0.mono hZ).c31)
    have Q8 := Lib.hid (fun Z (hZ : Below w10.heap.size w10 Z) => (L.b0.mono hZ).c32)
    have hb_g : g < w10.heap.size := L.tl.tl.tl.tl.tl.b0.lt
    have hb_g6 : g6 < w10.heap.size := L.tl.b0.lt
    have hb_g7 : g7 < w10.heap.size := L.b0.lt
    have D0 : Dq w10 w10 [(.slice A7 (zl M5) c7, (M5).natAbs), (.slice A6 (zl M4) c6, (M4).natAbs), (.slice A (zl m) c, (m).natAbs)] [] [] [] := ⟨((((Lq.mk0 w10).n (L.getN (v := .slice A (zl m) c) (x := (m).natAbs) (by simp))).n (L.getN (v := .slice A6 (zl M4) c6) (x := (M4).natAbs) (by simp))).n (L.getN (v := .slice A7 (zl M5) c7) (x := (M5).natAbs) (by simp))), List.nodup_nil, fun p hp => by cases hp⟩
    have D := D0.drew
    have LL := Lib.hid L
    clear L
    obtain ⟨K, hK⟩ : ∃ K, w10.heap.size = K := ⟨_, rfl⟩
    have hz0 : K ≤ w10.heap.size := by omega
    have hc_g : g < K := by omega
    have hc_g6 : g6 < K := by omega
    have hc_g7 : g7 < K := by omega
    have hmd : w10.drew.heap.size = K := hK
    go_cut [17, 18, 19] from 88 to 94 (fun s5 s6 s7 wx => Made3Q w10 qn qd Un Ud Hn Hd s5 s6 s7 wx)
    case first =>
      refine wp_region_noPanic ?_
      refine wp_region_held_drew (S := fun w' => w'.cell? ⟨g, 0, none⟩ = some (.bool (ng m)) ∧ w'.cell? ⟨g, 1, none⟩ = some (.slice A (zl m) c) ∧ w'.cell? ⟨g, 2, none⟩ = some (.int .i64 e) ∧ w'.cell? ⟨g6, 0, none⟩ = some (.bool (ng M4)) ∧ w'.cell? ⟨g6, 1, none⟩ = some (.slice A6 (zl M4) c6) ∧ w'.cell? ⟨g6, 2, none⟩ = some (.int .i64 E4) ∧ w'.cell? ⟨g7, 0, none⟩ = some (.bool (ng M5)) ∧ w'.cell? ⟨g7, 1, none⟩ = some (.slice A7 (zl M5) c7) ∧ w'.cell? ⟨g7, 2, none⟩ = some (.int .i64 E5)) (by kernel_rfl) ?rgS (fun hHeld => ?rgR)
      case rgS => exact ⟨Q0.out _ D.lq.below, Q1.out _ D.lq.below, Q2.out _ D.lq.below, Q3.out _ D.lq.below, Q4.out _ D.lq.below, Q5.out _ D.lq.below, Q6.out _ D.lq.below, Q7.out _ D.lq.below, Q8.out _ D.lq.below⟩
      case rgR =>
        refine' wpAnyH_take (i := 0) (oi := _) (v := (.agg #[.bool (ng m), .slice A (zl m) c, .int .i64 e])) ?rga0 ?rgb0 ?rgc0 ?rgd0 ?rge0 ?rgf0 ?rgg0 ?rgh0
        case rga0 => ((try simp only [List.getElem?_toArray, List.getElem?_cons_zero, List.getElem?_cons_succ]); rfl)
        case rgb0 => kernel_rfl
        case rgc0 => kernel_rfl
        case rgd0 => kernel_rfl
        case rge0 => exact fun _ _ _ h => h
        case rgf0 => exact Or.inl ⟨by rfl, by (intro w hSw; (try dsimp only at hSw); go_simp; (try with_reducible rfl))⟩
        case rgg0 => assumption
        (try simp only [Act.put, List.setIfInBounds_toArray, List.set_cons_zero, List.set_cons_succ])
        refine' wpAnyH_take (i := 2) (oi := _) (v := (.agg #[.bool (ng M4), .slice A6 (zl M4) c6, .int .i64 E4])) ?rga2 ?rgb2 ?rgc2 ?rgd2 ?rge2 ?rgf2 ?rgg2 ?rgh2
        case rga2 => ((try simp only [List.getElem?_toArray, List.getElem?_cons_zero, List.getElem?_cons_succ]); rfl)
        case rgb2 => kernel_rfl
        case rgc2 => kernel_rfl
        case rgd2 => kernel_rfl
        case rge2 => exact fun _ _ _ h => h
        case rgf2 => exact Or.inl ⟨by rfl, by (intro w hSw; (try dsimp only at hSw); go_simp; (try with_reducible rfl))⟩
        case rgg2 => assumption
        (try simp only [Act.put, List.setIfInBounds_toArray, List.set_cons_zero, List.set_cons_succ])
        refine' wpAnyH_take (i := 4) (oi := _) (v := (.agg #[.bool (ng M5), .slice A7 (zl M5) c7, .int .i64 E5])) ?rga4 ?rgb4 ?rgc4 ?rgd4 ?rge4 ?rgf4 ?rgg4 ?rgh4
        case rga4 => ((try simp only [List.getElem?_toArray, List.getElem?_cons_zero, List.getElem?_cons_succ]); rfl)
        case rgb4 => kernel_rfl
        case rgc4 => kernel_rfl
        case rgd4 => kernel_rfl
        case rge4 => exact fun _ _ _ h => h
        case rgf4 => exact Or.inl ⟨by rfl, by (intro w hSw; (try dsimp only at hSw); go_simp; (try with_reducible rfl))⟩
        case rgg4 => assumption
        (try simp only [Act.put, List.setIfInBounds_toArray, List.set_cons_zero, List.set_cons_succ])
        refine region3_at (V := w10) (q1n := qn) (q1d := qd) (q2n := Un) (q2d := Ud) (q3n := Hn) (q3d := Hd) 89 91 93 17 18 19 (by kernel_rfl) rfl (by kernel_rfl) ?rgS2 ?rghr (by kernel_rfl) (by kernel_rfl) (by kernel_rfl) (by kernel_rfl) ?t1 ?t3 ?t5 ?t6 ?t7 ?t8 ?t9 ?t10 ?t11 ?hQ D.lq.below
        case rgS2 => exact fun w' hb => ⟨Q0.out _ hb, Q1.out _ hb, Q2.out _ hb, Q3.out _ hb, Q4.out _ hb, Q5.out _ hb, Q6.out _ hb, Q7.out _ hb, Q8.out _ hb⟩
        case rghr =>
          intro j e1 e2 e3 hj h0
          rcases (show j = 0 ∨ j = 1 ∨ j = 2 ∨ j = 3 by omega) with rfl | rfl | rfl | rfl <;> cases e1 <;> cases e2 <;> cases e3 <;> first | (exact absurd rfl h0) | kernel_rfl
        case t1 =>
          intro v2 v3 s1 s2 s3 u w K hb hK
          simp only [FF, Act.put, List.setIfInBounds_toArray, List.set_cons_zero, List.set_cons_succ] at hK ⊢
          have hK2 := Lib.hid hK
          clear hK
          refine' wpOp_of (o := _) ?rghit1 ?rght1
          case rghit1 => ((try simp only [List.getElem?_toArray, List.getElem?_cons_zero, List.getElem?_cons_succ]); rfl)
          go_simp
          go_at_call 20
          refine (H_rq0.out _ _ (isD_n ((D0.lq.step hb).getN (v := .slice A (zl m) c) (x := (m).natAbs) (by simp)))).mono ?_
          rintro e9 wh ⟨vh, rfl, iq, be⟩
          (try (go_wp2_with fail))
          exact hK2.out vh wh be iq
        case t3 =>
          intro v1 v3 s1 s2 s3 u w K hb hK
          simp only [FF, Act.put, List.setIfInBounds_toArray, List.set_cons_zero, List.set_cons_succ] at hK ⊢
          have hK2 := Lib.hid hK
          clear hK
          refine' wpOp_of (o := _) ?rghit3 ?rght3
          case rghit3 => ((try simp only [List.getElem?_toArray, List.getElem?_cons_zero, List.getElem?_cons_succ]); rfl)
          go_simp
          go_at_call 20
          refine (H_rq4.out _ _ (isD_n ((D0.lq.step hb).getN (v := .slice A6 (zl M4) c6) (x := (M4).natAbs) (by simp)))).mono ?_
          rintro e9 wh ⟨vh, rfl, iq, be⟩
          (try (go_wp2_with fail))
          exact hK2.out vh wh be iq
        case t5 =>
          intro v1 v2 s1 s2 s3 u w K hb hK
          simp only [FF, Act.put, List.setIfInBounds_toArray, List.set_cons_zero, List.set_cons_succ] at hK ⊢
          have hK2 := Lib.hid hK
          clear hK
          refine' wpOp_of (o := _) ?rghit5 ?rght5
          case rghit5 => ((try simp only [List.getElem?_toArray, List.getElem?_cons_zero, List.getElem?_cons_succ]); rfl)
          go_simp
          go_at_call 20
          refine (H_rq5.out _ _ (isD_n ((D0.lq.step hb).getN (v := .slice A7 (zl M5) c7) (x := (M5).natAbs) (by simp)))).mono ?_
          rintro e9 wh ⟨vh, rfl, iq, be⟩
          (try (go_wp2_with fail))
          exact hK2.out vh wh be iq
        case t6 =>
          intro v1 v2 v3 s2 s3 u w K hK
          simp only [FF, Act.put, List.setIfInBounds_toArray, List.set_cons_zero, List.set_cons_succ] at hK ⊢
          have hK2 := Lib.hid hK
          clear hK
          refine' wpOp_of (o := _) ?rghit6 ?rght6
          case rghit6 => ((try simp only [List.getElem?_toArray, List.getElem?_cons_zero, List.getElem?_cons_succ]); rfl)
          go_simp
          exact hK2.out
        case t7 =>
          intro v1 v2 v3 s1 s3 u w K hK
          simp only [FF, Act.put, List.setIfInBounds_toArray, List.set_cons_zero, List.set_cons_succ] at hK ⊢
          have hK2 := Lib.hid hK
          clear hK
          refine' wpOp_of (o := _) ?rghit7 ?rght7
          case rghit7 => ((try simp only [List.getElem?_toArray, List.getElem?_cons_zero, List.getElem?_cons_succ]); rfl)
          go_simp
          exact hK2.out
        case t8 =>
          intro v1 v2 v3 s1 s2 u w K hK
          simp only [FF, Act.put, List.setIfInBounds_toArray, List.set_cons_zero, List.set_cons_succ] at hK ⊢
          have hK2 := Lib.hid hK
          clear hK
          refine' wpOp_of (o := _) ?rghit8 ?rght8
          case rghit8 => ((try simp only [List.getElem?_toArray, List.getElem?_cons_zero, List.getElem?_cons_succ]); rfl)
          go_simp
          exact hK2.out
        case t9 =>
          intro v2 v3 s2 s3 b A n c B m d g w K z0 z1 z2 y0 y1 y2 hK
          simp only [FF, Act.put, List.setIfInBounds_toArray, List.set_cons_zero, List.set_cons_succ] at hK ⊢
          have hK2 := Lib.hid hK
          clear hK
          refine' wpOp_of (o := _) ?rghit9 ?rght9
          case rghit9 => ((try simp only [List.getElem?_toArray, List.getElem?_cons_zero, List.getElem?_cons_succ]); rfl)
          go_simp
          exact hK2.out
        case t10 =>
          intro v1 v3 s1 s3 b A n c B m d g w K z0 z1 z2 y0 y1 y2 hK
          simp only [FF, Act.put, List.setIfInBounds_toArray, List.set_cons_zero, List.set_cons_succ] at hK ⊢
          have hK2 := Lib.hid hK
          clear hK
          refine' wpOp_of (o := _) ?rghit10 ?rght10
          case rghit10 => ((try simp only [List.getElem?_toArray, List.getElem?_cons_zero, List.getElem?_cons_succ]); rfl)
          go_simp
          exact hK2.out
        case t11 =>
          intro v1 v2 s1 s2 b A n c B m d g w K z0 z1 z2 y0 y1 y2 hK
          simp only [FF, Act.put, List.setIfInBounds_toArray, List.set_cons_zero, List.set_cons_succ] at hK ⊢
          have hK2 := Lib.hid hK
          clear hK
          refine' wpOp_of (o := _) ?rghit11 ?rght11
          case rghit11 => ((try simp only [List.getElem?_toArray, List.getElem?_cons_zero, List.getElem?_cons_succ]); rfl)
          go_simp
          exact hK2.out
        case hQ =>
          intro v1 v2 v3 s1 s2 s3 w hM
          simp only [FF, Act.put, List.setIfInBounds_toArray, List.set_cons_zero, List.set_cons_succ]
          refine NoPanic.normal ?_
          (try (go_wp2_with fail))
          go_meet
          exact hM
    case rest =>
      obtain ⟨gq, gu, gh, A10, B10, c10, k10, A11, B11, c11, k11, A12, B12, c12, k12, rfl, rfl, rfl, bw, hb1, hb2, hb3, hq1, hq2, hq3⟩ := hcut
      have L := ((((((LL.out.step bw).q hq3).q hq2).q hq1).b hb3).b hb2).b hb1
      clear D D0 hmd hz0 hK LL Q0 Q1 Q2 Q3 Q4 Q5 Q6 Q7 Q8 hb_g hc_g hb_g6 hc_g6 hb_g7 hc_g7 bw hb1 hb2 hb3 hq1 hq2 hq3
      generalize wc = wd1 at *
      (try go_wp2_with fail)
      have Q0 := Lib.hid (fun Z (hZ : Below wd1.heap.size wd1 Z) => (L.tl.tl.tl.tl.tl.tl.tl.b0.mono hZ).c30)
      have Q1 := Lib.hid (fun Z (hZ : Below wd1.heap.size wd1 Z) => (L.tl.tl.tl.tl.tl.tl.tl.b0.mono hZ).c31)
      have Q2 := Lib.hid (fun Z (hZ : Below wd1.heap.size wd1 Z) => (L.tl.tl.tl.tl.tl.tl.tl.b0.mono hZ).c32)
      have Q3 := Lib.hid (fun Z (hZ : Below wd1.heap.size wd1 Z) => (L.b0.mono hZ).c30)
      have Q4 := Lib.hid (fun Z (hZ : Below wd1.heap.size wd1 Z) => (L.b0.mono hZ).c31)
      have Q5 := Lib.hid (fun Z (hZ : Below wd1.heap.size wd1 Z) => (L.b0.mono hZ).c32)
      have hb_g3 : g3 < wd1.heap.size := L.tl.tl.tl.tl.tl.tl.tl.b0.lt
      have hb_gq : gq < wd1.heap.size := L.b0.lt
      have D0 : Dq wd1 wd1 [(.slice A3 (zl M1) c3, (M1).natAbs)] [] [(.agg #[.bool (ng qn), .slice A10 (zl qn) c10, .slice B10 (len qd) k10], qn, qd)] [] := ⟨(((Lq.mk0 wd1).n (L.getN (v := .slice A3 (zl M1) c3) (x := (M1).natAbs) (by simp))).q (L.getQ (v := .agg #[.bool (ng qn), .slice A10 (zl qn) c10, .slice B10 (len qd) k10]) (a := qn) (d := qd) (by simp))), List.nodup_nil, fun p hp => by cases hp⟩
      have D := D0.drew
      have LL := Lib.hid L
      clear L
      obtain ⟨K, hK⟩ : ∃ K, wd1.heap.size = K := ⟨_, rfl⟩
      have hz0 : K ≤ wd1.heap.size := by omega
      have hc_g3 : g3 < K := by omega
      have hc_gq : gq < K := by omega
      have hmd : wd1.drew.heap.size = K := hK
      go_cut [20] from 94 to 98 (fun s5 wx => Made1Q wd1 dn dd s5 wx)
      case first =>
        go_region_held3 (fun w' => w'.cell? ⟨g3, 0, none⟩ = some (.bool (ng M1)) ∧ w'.cell? ⟨g3, 1, none⟩ = some (.slice A3 (zl M1) c3) ∧ w'.cell? ⟨g3, 2, none⟩ = some (.int .i64 E1) ∧ w'.cell? ⟨gq, 0, none⟩ = some (.bool (ng qn)) ∧ w'.cell? ⟨gq, 1, none⟩ = some (.slice A10 (zl qn) c10) ∧ w'.cell? ⟨gq, 2, none⟩ = some (.slice B10 (len qd) k10)) (((try dsimp only); refine ⟨?_, ?_, ?_, ?_, ?_, ?_⟩ <;> (repeat (first | (with_reducible exact Q0.out _ D.lq.below) | (with_reducible exact Q0.out _ D0.lq.below) | (with_reducible exact Q1.out _ D.lq.below) | (with_reducible exact Q1.out _ D0.lq.below) | (with_reducible exact Q2.out _ D.lq.below) | (with_reducible exact Q2.out _ D0.lq.below) | (with_reducible exact Q3.out _ D.lq.below) | (with_reducible exact Q3.out _ D0.lq.below) | (with_reducible exact Q4.out _ D.lq.below) | (with_reducible exact Q4.out _ D0.lq.below) | (with_reducible exact Q5.out _ D.lq.below) | (with_reducible exact Q5.out _ D0.lq.below) | (with_reducible refine c_alloc _ ?_) | (with_reducible refine c_drew ?_) | (with_reducible refine c_set ?_ (by assumption) ?_) | omega)))) (first | (go_at_call 20; (with_reducible refine (H_rq1.out _ _ ?_ ).mono ?_); (· (first | (with_reducible refine isD_n (D.getN ?_); (repeat (first | (with_reducible exact List.mem_cons_self) | apply List.mem_cons_of_mem))) | (with_reducible refine isD_n ((D.box false none none 0 0 0 0).getN ?_); (repeat (first | (with_reducible exact List.mem_cons_self) | apply List.mem_cons_of_mem))) | (with_reducible refine isD_n ((D0.box false none none 0 0 0 0).drew.getN ?_); (repeat (first | (with_reducible exact List.mem_cons_self) | apply List.mem_cons_of_mem))))); rintro e9 wh ⟨vh, rfl, iq, be⟩; (first | (replace D := D.step be) | (replace D := (D.boxM hmd false none none 0 0 0 0).step be) | (replace D := (D.box false none none 0 0 0 0).step be)); have hz := be.size; (try simp at hz); replace D := D.q iq; obtain ⟨A20, c20, B20, k20, rfl, _, _, _⟩ := iq.form; clear iq; (try (have x00 := D.lq.b0.c30; have x01 := D.lq.b0.c31; have x02 := D.lq.b0.c32; have y00 := D.lq.b0.fr 0; have y01 := D.lq.b0.fr 1; have y02 := D.lq.b0.fr 2)); (try obtain ⟨na, nb, nc, nd, nl⟩ := D.n0)) | (go_at_call 21; (with_reducible refine (H_sb1.out _ _ _ ?_ ?_ ).mono ?_); (· (first | (with_reducible refine D.getQ ?_; (repeat (first | (with_reducible exact List.mem_cons_self) | apply List.mem_cons_of_mem))) | (with_reducible refine (D.box false none none 0 0 0 0).getQ ?_; (repeat (first | (with_reducible exact List.mem_cons_self) | apply List.mem_cons_of_mem))) | (with_reducible refine (D0.box false none none 0 0 0 0).drew.getQ ?_; (repeat (first | (with_reducible exact List.mem_cons_self) | apply List.mem_cons_of_mem))))); (· (first | (with_reducible refine D.getQ ?_; (repeat (first | (with_reducible exact List.mem_cons_self) | apply List.mem_cons_of_mem))) | (with_reducible refine (D.box false none none 0 0 0 0).getQ ?_; (repeat (first | (with_reducible exact List.mem_cons_self) | apply List.mem_cons_of_mem))) | (with_reducible refine (D0.box false none none 0 0 0 0).drew.getQ ?_; (repeat (first | (with_reducible exact List.mem_cons_self) | apply List.mem_cons_of_mem))))); rintro e9 wh ⟨vh, rfl, iq, be⟩; (first | (replace D := D.step be) | (replace D := (D.boxM hmd false none none 0 0 0 0).step be) | (replace D := (D.box false none none 0 0 0 0).step be)); have hz := be.size; (try simp at hz); replace D := D.q iq; obtain ⟨A21, c21, B21, k21, rfl, _, _, _⟩ := iq.form; clear iq; (try (have x00 := D.lq.b0.c30; have x01 := D.lq.b0.c31; have x02 := D.lq.b0.c32; have y00 := D.lq.b0.fr 0; have y01 := D.lq.b0.fr 1; have y02 := D.lq.b0.fr 2)); (try obtain ⟨na, nb, nc, nd, nl⟩ := D.n0)))
        all_goals
          go_wp2_with fail
          go_meet
          first
          | ((with_reducible refine made1q_a D ?_) <;> (repeat (first | (with_reducible exact List.mem_cons_self) | apply List.mem_cons_of_mem)))
          | ((with_reducible refine made1q_b D ?_) <;> (repeat (first | (with_reducible exact List.mem_cons_self) | apply List.mem_cons_of_mem)))
      case rest =>
        obtain ⟨gd, A13, c13, B13, k13, rfl, hg9, bw, hbx, hqq⟩ := hcut
        have L := ((LL.out.step bw).q hqq).b hbx
        clear D D0 hmd hz0 hK LL Q0 Q1 Q2 Q3 Q4 Q5 hb_g3 hc_g3 hb_gq hc_gq bw hbx hqq hg9
        generalize wc = wd2 at *
        (try go_wp2_with fail)
        have Q0 := Lib.hid (fun Z (hZ : Below wd2.heap.size wd2 Z) => (L.tl.tl.tl.tl.tl.tl.tl.b0.mono hZ).c30)
        have Q1 := Lib.hid (fun Z (hZ : Below wd2.heap.size wd2 Z) => (L.tl.tl.tl.tl.tl.tl.tl.b0.mono hZ).c31)
        have Q2 := Lib.hid (fun Z (hZ : Below wd2.heap.size wd2 Z) => (L.tl.tl.tl.tl.tl.tl.tl.b0.mono hZ).c32)
        have Q3 := Lib.hid (fun Z (hZ : Below wd2.heap.size wd2 Z) => (L.tl.b0.mono hZ).c30)
        have Q4 := Lib.hid (fun Z (hZ : Below wd2.heap.size wd2 Z) => (L.tl.b0.mono hZ).c31)
        have Q5 := Lib.hid (fun Z (hZ : Below wd2.heap.size wd2 Z) => (L.tl.b0.mono hZ).c32)
        have hb_g4 : g4 < wd2.heap.size := L.tl.tl.tl.tl.tl.tl.tl.b0.lt
        have hb_gq : gq < wd2.heap.size := L.tl.b0.lt
        have D0 : Dq wd2 wd2 [(.slice A4 (zl M2) c4, (M2).natAbs)] [] [(.agg #[.bool (ng qn), .slice A10 (zl qn) c10, .slice B10 (len qd) k10], qn, qd)] [] := ⟨(((Lq.mk0 wd2).n (L.getN (v := .slice A4 (zl M2) c4) (x := (M2).natAbs) (by simp))).q (L.getQ (v := .agg #[.bool (ng qn), .slice A10 (zl qn) c10, .slice B10 (len qd) k10]) (a := qn) (d := qd) (by simp))), List.nodup_nil, fun p hp => by cases hp⟩
        have D := D0.drew
        have LL := Lib.hid L
        clear L
        obtain ⟨K, hK⟩ : ∃ K, wd2.heap.size = K := ⟨_, rfl⟩
        have hz0 : K ≤ wd2.heap.size := by omega
        have hc_g4 : g4 < K := by omega
        have hc_gq : gq < K := by omega
        have hmd : wd2.drew.heap.size = K := hK
        go_cut [21] from 98 to 102 (fun s5 wx => Made1Q wd2 un ud s5 wx)
        case first =>
          go_region_held3 (fun w' => w'.cell? ⟨g4, 0, none⟩ = some (.bool (ng M2)) ∧ w'.cell? ⟨g4, 1, none⟩ = some (.slice A4 (zl M2) c4) ∧ w'.cell? ⟨g4, 2, none⟩ = some (.int .i64 E2) ∧ w'.cell? ⟨gq, 0, none⟩ = some (.bool (ng qn)) ∧ w'.cell? ⟨gq, 1, none⟩ = some (.slice A10 (zl qn) c10) ∧ w'.cell? ⟨gq, 2, none⟩ = some (.slice B10 (len qd) k10)) (((try dsimp only); refine ⟨?_, ?_, ?_, ?_, ?_, ?_⟩ <;> (repeat (first | (with_reducible exact Q0.out _ D.lq.below) | (with_reducible exact Q0.out _ D0.lq.below) | (with_reducible exact Q1.out _ D.lq.below) | (with_reducible exact Q1.out _ D0.lq.below) | (with_reducible exact Q2.out _ D.lq.below) | (with_reducible exact Q2.out _ D0.lq.below) | (with_reducible exact Q3.out _ D.lq.below) | (with_reducible exact Q3.out _ D0.lq.below) | (with_reducible exact Q4.out _ D.lq.below) | (with_reducible exact Q4.out _ D0.lq.below) | (with_reducible exact Q5.out _ D.lq.below) | (with_reducible exact Q5.out _ D0.lq.below) | (with_reducible refine c_alloc _ ?_) | (with_reducible refine c_drew ?_) | (with_reducible refine c_set ?_ (by assumption) ?_) | omega)))) (first | (go_at_call 20; (with_reducible refine (H_rq2.out _ _ ?_ ).mono ?_); (· (first | (with_reducible refine isD_n (D.getN ?_); (repeat (first | (with_reducible exact List.mem_cons_self) | apply List.mem_cons_of_mem))) | (with_reducible refine isD_n ((D.box false none none 0 0 0 0).getN ?_); (repeat (first | (with_reducible exact List.mem_cons_self) | apply List.mem_cons_of_mem))) | (with_reducible refine isD_n ((D0.box false none none 0 0 0 0).drew.getN ?_); (repeat (first | (with_reducible exact List.mem_cons_self) | apply List.mem_cons_of_mem))))); rintro e9 wh ⟨vh, rfl, iq, be⟩; (first | (replace D := D.step be) | (replace D := (D.boxM hmd false none none 0 0 0 0).step be) | (replace D := (D.box false none none 0 0 0 0).step be)); have hz := be.size; (try simp at hz); replace D := D.q iq; obtain ⟨A20, c20, B20, k20, rfl, _, _, _⟩ := iq.form; clear iq; (try (have x00 := D.lq.b0.c30; have x01 := D.lq.b0.c31; have x02 := D.lq.b0.c32; have y00 := D.lq.b0.fr 0; have y01 := D.lq.b0.fr 1; have y02 := D.lq.b0.fr 2)); (try obtain ⟨na, nb, nc, nd, nl⟩ := D.n0)) | (go_at_call 21; (with_reducible refine (H_sb2.out _ _ _ ?_ ?_ ).mono ?_); (· (first | (with_reducible refine D.getQ ?_; (repeat (first | (with_reducible exact List.mem_cons_self) | apply List.mem_cons_of_mem))) | (with_reducible refine (D.box false none none 0 0 0 0).getQ ?_; (repeat (first | (with_reducible exact List.mem_cons_self) | apply List.mem_cons_of_mem))) | (with_reducible refine (D0.box false none none 0 0 0 0).drew.getQ ?_; (repeat (first | (with_reducible exact List.mem_cons_self) | apply List.mem_cons_of_mem))))); (· (first | (with_reducible refine D.getQ ?_; (repeat (first | (with_reducible exact List.mem_cons_self) | apply List.mem_cons_of_mem))) | (with_reducible refine (D.box false none none 0 0 0 0).getQ ?_; (repeat (first | (with_reducible exact List.mem_cons_self) | apply List.mem_cons_of_mem))) | (with_reducible refine (D0.box false none none 0 0 0 0).drew.getQ ?_; (repeat (first | (with_reducible exact List.mem_cons_self) | apply List.mem_cons_of_mem))))); rintro e9 wh ⟨vh, rfl, iq, be⟩; (first | (replace D := D.step be) | (replace D := (D.boxM hmd false none none 0 0 0 0).step be) | (replace D := (D.box false none none 0 0 0 0).step be)); have hz := be.size; (try simp at hz); replace D := D.q iq; obtain ⟨A21, c21, B21, k21, rfl, _, _, _⟩ := iq.form; clear iq; (try (have x00 := D.lq.b0.c30; have x01 := D.lq.b0.c31; have x02 := D.lq.b0.c32; have y00 := D.lq.b0.fr 0; have y01 := D.lq.b0.fr 1; have y02 := D.lq.b0.fr 2)); (try obtain ⟨na, nb, nc, nd, nl⟩ := D.n0)))
          all_goals
            go_wp2_with fail
            go_meet
            first
            | ((with_reducible refine made1q_a D ?_) <;> (repeat (first | (with_reducible exact List.mem_cons_self) | apply List.mem_cons_of_mem)))
            | ((with_reducible refine made1q_b D ?_) <;> (repeat (first | (with_reducible exact List.mem_cons_self) | apply List.mem_cons_of_mem)))
        case rest =>
          obtain ⟨ge, A14, c14, B14, k14, rfl, hg9, bw, hbx, hqq⟩ := hcut
          have L := ((LL.out.step bw).q hqq).b hbx
          clear D D0 hmd hz0 hK LL Q0 Q1 Q2 Q3 Q4 Q5 hb_g4 hc_g4 hb_gq hc_gq bw hbx hqq hg9
          generalize wc = wd3 at *
          (try go_wp2_with fail)
          have Q0 := Lib.hid (fun Z (hZ : Below wd3.heap.size wd3 Z) => (L.tl.tl.tl.tl.tl.tl.tl.b0.mono hZ).c30)
          have Q1 := Lib.hid (fun Z (hZ : Below wd3.heap.size wd3 Z) => (L.tl.tl.tl.tl.tl.tl.tl.b0.mono hZ).c31)
          have Q2 := Lib.hid (fun Z (hZ : Below wd3.heap.size wd3 Z) => (L.tl.tl.tl.tl.tl.tl.tl.b0.mono hZ).c32)
          have Q3 := Lib.hid (fun Z (hZ : Below wd3.heap.size wd3 Z) => (L.tl.tl.b0.mono hZ).c30)
          have Q4 := Lib.hid (fun Z (hZ : Below wd3.heap.size wd3 Z) => (L.tl.tl.b0.mono hZ).c31)
          have Q5 := Lib.hid (fun Z (hZ : Below wd3.heap.size wd3 Z) => (L.tl.tl.b0.mono hZ).c32)
          have hb_g5 : g5 < wd3.heap.size := L.tl.tl.tl.tl.tl.tl.tl.b0.lt
          have hb_gq : gq < wd3.heap.size := L.tl.tl.b0.lt
          have D0 : Dq wd3 wd3 [(.slice A5 (zl M3) c5, (M3).natAbs)] [] [(.agg #[.bool (ng qn), .slice A10 (zl qn) c10, .slice B10 (len qd) k10], qn, qd)] [] := ⟨(((Lq.mk0 wd3).n (L.getN (v := .slice A5 (zl M3) c5) (x := (M3).natAbs) (by simp))).q (L.getQ (v := .agg #[.bool (ng qn), .slice A10 (zl qn) c10, .slice B10 (len qd) k10]) (a := qn) (d := qd) (by simp))), List.nodup_nil, fun p hp => by cases hp⟩
          have D := D0.drew
          have LL := Lib.hid L
          clear L
          obtain ⟨K, hK⟩ : ∃ K, wd3.heap.size = K := ⟨_, rfl⟩
          have hz0 : K ≤ wd3.heap.size := by omega
          have hc_g5 : g5 < K := by omega
          have hc_gq : gq < K := by omega
          have hmd : wd3.drew.heap.size = K := hK
          go_cut [22] from 102 to 106 (fun s5 wx => Made1Q wd3 fn fd s5 wx)
          case first =>
            go_region_held3 (fun w' => w'.cell? ⟨g5, 0, none⟩ = some (.bool (ng M3)) ∧ w'.cell? ⟨g5, 1, none⟩ = some (.slice A5 (zl M3) c5) ∧ w'.cell? ⟨g5, 2, none⟩ = some (.int .i64 E3) ∧ w'.cell? ⟨gq, 0, none⟩ = some (.bool (ng qn)) ∧ w'.cell? ⟨gq, 1, none⟩ = some (.slice A10 (zl qn) c10) ∧ w'.cell? ⟨gq, 2, none⟩ = some (.slice B10 (len qd) k10)) (((try dsimp only); refine ⟨?_, ?_, ?_, ?_, ?_, ?_⟩ <;> (repeat (first | (with_reducible exact Q0.out _ D.lq.below) | (with_reducible exact Q0.out _ D0.lq.below) | (with_reducible exact Q1.out _ D.lq.below) | (with_reducible exact Q1.out _ D0.lq.below) | (with_reducible exact Q2.out _ D.lq.below) | (with_reducible exact Q2.out _ D0.lq.below) | (with_reducible exact Q3.out _ D.lq.below) | (with_reducible exact Q3.out _ D0.lq.below) | (with_reducible exact Q4.out _ D.lq.below) | (with_reducible exact Q4.out _ D0.lq.below) | (with_reducible exact Q5.out _ D.lq.below) | (with_reducible exact Q5.out _ D0.lq.below) | (with_reducible refine c_alloc _ ?_) | (with_reducible refine c_drew ?_) | (with_reducible refine c_set ?_ (by assumption) ?_) | omega)))) (first | (go_at_call 20; (with_reducible refine (H_rq3.out _ _ ?_ ).mono ?_); (· (first | (with_reducible refine isD_n (D.getN ?_); (repeat (first | (with_reducible exact List.mem_cons_self) | apply List.mem_cons_of_mem))) | (with_reducible refine isD_n ((D.box false none none 0 0 0 0).getN ?_); (repeat (first | (with_reducible exact List.mem_cons_self) | apply List.mem_cons_of_mem))) | (with_reducible refine isD_n ((D0.box false none none 0 0 0 0).drew.getN ?_); (repeat (first | (with_reducible exact List.mem_cons_self) | apply List.mem_cons_of_mem))))); rintro e9 wh ⟨vh, rfl, iq, be⟩; (first | (replace D := D.step be) | (replace D := (D.boxM hmd false none none 0 0 0 0).step be) | (replace D := (D.box false none none 0 0 0 0).step be)); have hz := be.size; (try simp at hz); replace D := D.q iq; obtain ⟨A20, c20, B20, k20, rfl, _, _, _⟩ := iq.form; clear iq; (try (have x00 := D.lq.b0.c30; have x01 := D.lq.b0.c31; have x02 := D.lq.b0.c32; have y00 := D.lq.b0.fr 0; have y01 := D.lq.b0.fr 1; have y02 := D.lq.b0.fr 2)); (try obtain ⟨na, nb, nc, nd, nl⟩ := D.n0)) | (go_at_call 21; (with_reducible refine (H_sb3.out _ _ _ ?_ ?_ ).mono ?_); (· (first | (with_reducible refine D.getQ ?_; (repeat (first | (with_reducible exact List.mem_cons_self) | apply List.mem_cons_of_mem))) | (with_reducible refine (D.box false none none 0 0 0 0).getQ ?_; (repeat (first | (with_reducible exact List.mem_cons_self) | apply List.mem_cons_of_mem))) | (with_reducible refine (D0.box false none none 0 0 0 0).drew.getQ ?_; (repeat (first | (with_reducible exact List.mem_cons_self) | apply List.mem_cons_of_mem))))); (· (first | (with_reducible refine D.getQ ?_; (repeat (first | (with_reducible exact List.mem_cons_self) | apply List.mem_cons_of_mem))) | (with_reducible refine (D.box false none none 0 0 0 0).getQ ?_; (repeat (first | (with_reducible exact List.mem_cons_self) | apply List.mem_cons_of_mem))) | (with_reducible refine (D0.box false none none 0 0 0 0).drew.getQ ?_; (repeat (first | (with_reducible exact List.mem_cons_self) | apply List.mem_cons_of_mem))))); rintro e9 wh ⟨vh, rfl, iq, be⟩; (first | (replace D := D.step be) | (replace D := (D.boxM hmd false none none 0 0 0 0).step be) | (replace D := (D.box false none none 0 0 0 0).step be)); have hz := be.size; (try simp at hz); replace D := D.q iq; obtain ⟨A21, c21, B21, k21, rfl, _, _, _⟩ := iq.form; clear iq; (try (have x00 := D.lq.b0.c30; have x01 := D.lq.b0.c31; have x02 := D.lq.b0.c32; have y00 := D.lq.b0.fr 0; have y01 := D.lq.b0.fr 1; have y02 := D.lq.b0.fr 2)); (try obtain ⟨na, nb, nc, nd, nl⟩ := D.n0)))
            all_goals
              go_wp2_with fail
              go_meet
              first
              | ((with_reducible refine made1q_a D ?_) <;> (repeat (first | (with_reducible exact List.mem_cons_self) | apply List.mem_cons_of_mem)))
              | ((with_reducible refine made1q_b D ?_) <;> (repeat (first | (with_reducible exact List.mem_cons_self) | apply List.mem_cons_of_mem)))
          case rest =>
            obtain ⟨gf, A15, c15, B15, k15, rfl, hg9, bw, hbx, hqq⟩ := hcut
            have L := ((LL.out.step bw).q hqq).b hbx
            clear D D0 hmd hz0 hK LL Q0 Q1 Q2 Q3 Q4 Q5 hb_g5 hc_g5 hb_gq hc_gq bw hbx hqq hg9
            generalize wc = wd4 at *
            have cel20 := L.tl.tl.b0.c30
            have cel21 := L.tl.tl.b0.c31
            have cel22 := L.tl.tl.b0.c32
            (try go_wp2_with fail)
            refine (H_sg1.out _ _ (L.getQ (v := .agg #[.bool (ng dn), .slice A13 (zl dn) c13, .slice B13 (len dd) k13]) (by simp))).mono ?_
            rintro e w61 ⟨rfl, be⟩
            clear cel20 cel21 cel22
            replace L := L.step be
            clear be
            have cel10 := L.tl.b0.c30
            have cel11 := L.tl.b0.c31
            have cel12 := L.tl.b0.c32
            go_wp2_with fail
            refine (H_sg2.out _ _ (L.getQ (v := .agg #[.bool (ng un), .slice A14 (zl un) c14, .slice B14 (len ud) k14]) (by simp))).mono ?_
            rintro e w62 ⟨rfl, be⟩
            clear cel10 cel11 cel12
            replace L := L.step be
            clear be
            have cel20 := L.tl.tl.b0.c30
            have cel21 := L.tl.tl.b0.c31
            have cel22 := L.tl.tl.b0.c32
            have cel40 := L.tl.tl.tl.tl.b0.c30
            have cel41 := L.tl.tl.tl.tl.b0.c31
            have cel42 := L.tl.tl.tl.tl.b0.c32
            go_wp2_with fail
            refine (H_cp1.out _ _ _ (L.getQ (v := .agg #[.bool (ng dn), .slice A13 (zl dn) c13, .slice B13 (len dd) k13]) (by simp)) (L.getQ (v := .agg #[.bool (ng Un), .slice A11 (zl Un) c11, .slice B11 (len Ud) k11]) (by simp))).mono ?_
            rintro e w63 ⟨rfl, be⟩
            clear cel20 cel21 cel22 cel40 cel41 cel42
            replace L := L.step be
            clear be
            have cel10 := L.tl.b0.c30
            have cel11 := L.tl.b0.c31
            have cel12 := L.tl.b0.c32
            have cel40 := L.tl.tl.tl.tl.b0.c30
            have cel41 := L.tl.tl.tl.tl.b0.c31
            have cel42 := L.tl.tl.tl.tl.b0.c32
            go_wp2_with fail
            refine (H_cp2.out _ _ _ (L.getQ (v := .agg #[.bool (ng un), .slice A14 (zl un) c14, .slice B14 (len ud) k14]) (by simp)) (L.getQ (v := .agg #[.bool (ng Un), .slice A11 (zl Un) c11, .slice B11 (len Ud) k11]) (by simp))).mono ?_
            rintro e w64 ⟨rfl, be⟩
            clear cel10 cel11 cel12 cel40 cel41 cel42
            replace L := L.step be
            clear be
            go_wp2_with fail
            replace L := L.drew
            have cel00 := L.b0.c30
            have cel01 := L.b0.c31
            have cel02 := L.b0.c32
            have cel50 := L.tl.tl.tl.tl.tl.b0.c30
            have cel51 := L.tl.tl.tl.tl.tl.b0.c31
            have cel52 := L.tl.tl.tl.tl.tl.b0.c32
            have cel90 := L.tl.tl.tl.tl.tl.tl.tl.tl.tl.b0.c30
            have cel91 := L.tl.tl.tl.tl.tl.tl.tl.tl.tl.b0.c31
            have cel92 := L.tl.tl.tl.tl.tl.tl.tl.tl.tl.b0.c32
            have cel100 := L.tl.tl.tl.tl.tl.tl.tl.tl.tl.tl.b0.c30
            have cel101 := L.tl.tl.tl.tl.tl.tl.tl.tl.tl.tl.b0.c31
            have cel102 := L.tl.tl.tl.tl.tl.tl.tl.tl.tl.tl.b0.c32
            have cel110 := L.tl.tl.tl.tl.tl.tl.tl.tl.tl.tl.tl.b0.c30
            have cel111 := L.tl.tl.tl.tl.tl.tl.tl.tl.tl.tl.tl.b0.c31
            have cel112 := L.tl.tl.tl.tl.tl.tl.tl.tl.tl.tl.tl.b0.c32
            go_region_held3 (fun w' => w'.cell? ⟨gf, 0, none⟩ = some (.bool (ng fn)) ∧ w'.cell? ⟨gf, 1, none⟩ = some (.slice A15 (zl fn) c15) ∧ w'.cell? ⟨gf, 2, none⟩ = some (.slice B15 (len fd) k15) ∧ w'.cell? ⟨gh, 0, none⟩ = some (.bool (ng Hn)) ∧ w'.cell? ⟨gh, 1, none⟩ = some (.slice A12 (zl Hn) c12) ∧ w'.cell? ⟨gh, 2, none⟩ = some (.slice B12 (len Hd) k12) ∧ w'.cell? ⟨g, 0, none⟩ = some (.bool (ng m)) ∧ w'.cell? ⟨g, 1, none⟩ = some (.slice A (zl m) c) ∧ w'.cell? ⟨g, 2, none⟩ = some (.int .i64 e) ∧ w'.cell? ⟨g3, 0, none⟩ = some (.bool (ng M1)) ∧ w'.cell? ⟨g3, 1, none⟩ = some (.slice A3 (zl M1) c3) ∧ w'.cell? ⟨g3, 2, none⟩ = some (.int .i64 E1) ∧ w'.cell? ⟨g4, 0, none⟩ = some (.bool (ng M2)) ∧ w'.cell? ⟨g4, 1, none⟩ = some (.slice A4 (zl M2) c4) ∧ w'.cell? ⟨g4, 2, none⟩ = some (.int .i64 E2)) (first | (with_reducible exact ⟨L.b0.c30, L.b0.c31, L.b0.c32, L.tl.tl.tl.tl.tl.b0.c30, L.tl.tl.tl.tl.tl.b0.c31, L.tl.tl.tl.tl.tl.b0.c32, L.tl.tl.tl.tl.tl.tl.tl.tl.tl.tl.tl.b0.c30, L.tl.tl.tl.tl.tl.tl.tl.tl.tl.tl.tl.b0.c31, L.tl.tl.tl.tl.tl.tl.tl.tl.tl.tl.tl.b0.c32, L.tl.tl.tl.tl.tl.tl.tl.tl.tl.tl.b0.c30, L.tl.tl.tl.tl.tl.tl.tl.tl.tl.tl.b0.c31, L.tl.tl.tl.tl.tl.tl.tl.tl.tl.tl.b0.c32, L.tl.tl.tl.tl.tl.tl.tl.tl.tl.b0.c30, L.tl.tl.tl.tl.tl.tl.tl.tl.tl.b0.c31, L.tl.tl.tl.tl.tl.tl.tl.tl.tl.b0.c32⟩) | exact ⟨L.b0.c30, L.b0.c31, L.b0.c32, L.tl.tl.tl.tl.tl.b0.c30, L.tl.tl.tl.tl.tl.b0.c31, L.tl.tl.tl.tl.tl.b0.c32, L.tl.tl.tl.tl.tl.tl.tl.tl.tl.tl.tl.b0.c30, L.tl.tl.tl.tl.tl.tl.tl.tl.tl.tl.tl.b0.c31, L.tl.tl.tl.tl.tl.tl.tl.tl.tl.tl.tl.b0.c32, L.tl.tl.tl.tl.tl.tl.tl.tl.tl.tl.b0.c30, L.tl.tl.tl.tl.tl.tl.tl.tl.tl.tl.b0.c31, L.tl.tl.tl.tl.tl.tl.tl.tl.tl.tl.b0.c32, L.tl.tl.tl.tl.tl.tl.tl.tl.tl.b0.c30, L.tl.tl.tl.tl.tl.tl.tl.tl.tl.b0.c31, L.tl.tl.tl.tl.tl.tl.tl.tl.tl.b0.c32⟩) (first | (go_at_call 23; (with_reducible refine (H_cp3.out _ _ _ ?_ ?_ ).mono ?_); (· (refine L.getQ ?_; (repeat (first | (with_reducible exact List.mem_cons_self) | apply List.mem_cons_of_mem)))); (· (refine L.getQ ?_; (repeat (first | (with_reducible exact List.mem_cons_self) | apply List.mem_cons_of_mem)))); rintro e wh ⟨rfl, be⟩; replace L := L.step be; clear be) | (go_at_call 24; (with_reducible refine (H_ng3.out _ _ ?_ ).mono ?_); (· (refine L.getQ ?_; (repeat (first | (with_reducible exact List.mem_cons_self) | apply List.mem_cons_of_mem)))); rintro e wh ⟨vh, rfl, iq, be⟩; replace L := (L.step be).q iq; clear be iq) | (go_at_call 23; (with_reducible refine (H_cp4.out _ _ _ ?_ ?_ ).mono ?_); (· (refine L.getQ ?_; (repeat (first | (with_reducible exact List.mem_cons_self) | apply List.mem_cons_of_mem)))); (· (refine L.getQ ?_; (repeat (first | (with_reducible exact List.mem_cons_self) | apply List.mem_cons_of_mem)))); rintro e wh ⟨rfl, be⟩; replace L := L.step be; clear be) | (go_at_call 19; (with_reducible refine (H_on0.out _ _ ?_ ).mono ?_); (· (refine isD_n (L.getN ?_); (repeat (first | (with_reducible exact List.mem_cons_self) | apply List.mem_cons_of_mem)))); rintro e wh ⟨rfl, be⟩; replace L := L.step be; clear be) | (go_at_call 25; (with_reducible refine (H_cm.out _ _ _ ?_ ?_ ).mono ?_); (· (refine isD_n (L.getN ?_); (repeat (first | (with_reducible exact List.mem_cons_self) | apply List.mem_cons_of_mem)))); (· (refine isD_n (L.getN ?_); (repeat (first | (with_reducible exact List.mem_cons_self) | apply List.mem_cons_of_mem)))); rintro e wh ⟨rfl, be⟩; replace L := L.step be; clear be))
            clear cel00 cel01 cel02 cel50 cel51 cel52 cel90 cel91 cel92 cel100 cel101 cel102 cel110 cel111 cel112
            go_wp2_with fail
            go_ret
            exact ⟨rfl, L.below⟩

end Go.Proofs.YtgjljalcgiddgaaDoor
