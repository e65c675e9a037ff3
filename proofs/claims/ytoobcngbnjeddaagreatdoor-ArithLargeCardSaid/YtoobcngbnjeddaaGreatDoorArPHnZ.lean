/- The program's arith: Div by negative divisors. -/
import Derived.Test.YtoobcngbnjeddaaGreatDoorArDvZ
import Derived.Test.YtoobcngbnjeddaaGreatDoorBaseV
import Derived.Deep.RegionHeld3
import Derived.Deep.DrawnRows
import Derived.Deep.Cut
import Derived.Deep.CutRange
import Derived.Deep.RegionWith
namespace Go.Proofs.YtoobcngbnjeddaaGreatDoor
open Go.RowKit
set_option linter.unusedVariables false
set_option linter.unusedSimpArgs false
set_option maxRecDepth 100000
attribute [local go_sem ↓] Go.wp_at_zero Go.wp_at_succ

set_option maxHeartbeats 100000000 in
theorem adiv_neg (m e n f m2 e2 n2 f2 k : Int) (vx vy : Value) (w : World) (hx : IsI w vx m e n f) (hy : IsI w vy m2 e2 n2 f2) (lm : zl m ≤ 25) (ln : zl n ≤ 25) (lm2 : zl m2 ≤ 25) (ln2 : zl n2 ≤ 25) (he : -3000 ≤ e ∧ e ≤ 3000) (hf : -3000 ≤ f ∧ f ≤ 3000) (he2 : -3000 ≤ e2 ∧ e2 ≤ 3000) (hf2 : -3000 ≤ f2 ∧ f2 ≤ 3000) (hd1 : dcm m e n f ≤ 0) (hd2 : dcm m2 e2 n2 f2 ≤ 0) (hk1 : -9223372036854775808 ≤ k) (hk2 : k ≤ 9223372036854775807) (hT : Tab w) (hw : workB k = true) (hxy : cmpI m2 0 = cmpI n2 0) (hx0 : ¬ cmpI m2 0 = 0) (hx1 : cmpI m2 0 < 0) :
    Calls Tryz.prog 23 #[vx, vy, .int .i64 k] w (RetEn w (min4 (dq m e / dq m2 e2) (dq m e / dq n2 f2) (dq n f / dq m2 e2) (dq n f / dq n2 f2)) (max4 (dq m e / dq m2 e2) (dq m e / dq n2 f2) (dq n f / dq m2 e2) (dq n f / dq n2 f2)) k) := by
  obtain ⟨A, c, B, d, rfl, hn1, hn2⟩ := hx.form
  obtain ⟨A2, k2, B2, d2, rfl, hn3, hn4⟩ := hy.form
  have L0 := ((((Lq.mk0 w).n hn4).n hn3).n hn2).n hn1
  have S0 := fun v W h => i10sign_any m2 e2 n2 f2 v W h (by omega) (by omega) (by omega) (by omega)
  have HW0 := fun W => aperm_any k W
  unfold RetSg at S0
  rw [hw] at HW0
  have HW := Lib.hid HW0
  clear HW0
  obtain ⟨ps1, ps2⟩ := (cmp_signs hxy).1 hx1
  obtain ⟨x, hx9⟩ : ∃ x, cmpI m2 0 = x := ⟨_, rfl⟩
  rw [if_pos hxy, decide_eq_true hxy] at S0
  rw [hx9] at S0 hx0 hx1
  have S := Lib.hid S0
  clear S0 hx9 hxy
  have b1 : (x == 0) = false := by simpa using hx0
  obtain ⟨lo, hlo⟩ : ∃ z, min4 (dq m e / dq m2 e2) (dq m e / dq n2 f2) (dq n f / dq m2 e2) (dq n f / dq n2 f2) = z := ⟨_, rfl⟩
  obtain ⟨hi, hhi⟩ : ∃ z, max4 (dq m e / dq m2 e2) (dq m e / dq n2 f2) (dq n f / dq m2 e2) (dq n f / dq n2 f2) = z := ⟨_, rfl⟩
  rw [hlo, hhi]
  have b2 : decide (x < 0) = true := decide_eq_true hx1
  have z1 := zl_neg m
  have z2 := zl_neg n
  have z3 := zl_neg m2
  have z4 := zl_neg n2
  have O1 := fun v W h => aopp_any m e n f v W h (by omega) (by omega) (by omega) (by omega)
  have O2 := fun v W h => aopp_any m2 e2 n2 f2 v W h (by omega) (by omega) (by omega) (by omega)
  have hd3 : dcm (-n) f (-m) e ≤ 0 := by
    rw [dcm_le, dq_neg, dq_neg]
    exact Rat.neg_le_neg ((dcm_le _ _ _ _).1 hd1)
  have hd4 : dcm (-n2) f2 (-m2) e2 ≤ 0 := by
    rw [dcm_le, dq_neg, dq_neg]
    exact Rat.neg_le_neg ((dcm_le _ _ _ _).1 hd2)
  have fl := (flip_lo m e n f m2 e2 n2 f2).trans hlo
  have fh := (flip_hi m e n f m2 e2 n2 f2).trans hhi
  have q1 : 0 < -n2 := by omega
  have q2 : 0 < -m2 := by omega
  obtain ⟨um, hum⟩ : ∃ z, -n = z := ⟨_, rfl⟩
  obtain ⟨un, hun⟩ : ∃ z, -m = z := ⟨_, rfl⟩
  obtain ⟨vm, hvm⟩ : ∃ z, -n2 = z := ⟨_, rfl⟩
  obtain ⟨vn, hvn⟩ : ∃ z, -m2 = z := ⟨_, rfl⟩
  rw [hum, hun] at O1 hd3 fl fh
  rw [hvm, hvn] at O2 hd4 fl fh
  rw [hum] at z2
  rw [hun] at z1
  rw [hvm] at z4 q1
  rw [hvn] at z3 q2
  have bs1 := fun v u z W h1 h2 h3 => absign_any um f vm f2 vn e2 v u z W h1 h2 h3 (by omega)
  have v1 := quo_lo hd3 hd4 q1 q2
  obtain ⟨p1, hp1⟩ : ∃ p, (if um < 0 then vm else vn) = p := ⟨_, rfl⟩
  obtain ⟨s1, hs1⟩ : ∃ p, (if um < 0 then f2 else e2) = p := ⟨_, rfl⟩
  have pb1 : zl p1 ≤ 25 ∧ (-3000 ≤ s1 ∧ s1 ≤ 3000) ∧ p1 ≠ 0 := by rw [← hp1, ← hs1]; split <;> refine ⟨by omega, by omega, by omega⟩
  rw [hp1, hs1] at bs1 v1
  have qu1 := fun v u W h1 h2 => aquot_any um f p1 s1 v u W h1 h2 (by omega) (by omega) (by omega) (by omega) pb1.2.2
  have qs1 := qt_small (m := um) (e := f) (n := p1) (f := s1) pb1.2.2 (by omega) (by omega) (by omega) (by omega)
  have qp1 := qt_pos um f p1 s1
  obtain ⟨qa1, ha1⟩ : ∃ x, qtA um f p1 s1 = x := ⟨_, rfl⟩
  obtain ⟨qd1, hdd1⟩ : ∃ x, qtD um f p1 s1 = x := ⟨_, rfl⟩
  rw [ha1, hdd1] at v1 qu1 qs1
  rw [hdd1] at qp1
  rw [fl] at v1
  have bs2 := fun v u z W h1 h2 h3 => absign_any un e vn e2 vm f2 v u z W h1 h2 h3 (by omega)
  have v2 := quo_hi hd3 hd4 q1 q2
  obtain ⟨p2, hp2⟩ : ∃ p, (if un < 0 then vn else vm) = p := ⟨_, rfl⟩
  obtain ⟨s2, hs2⟩ : ∃ p, (if un < 0 then e2 else f2) = p := ⟨_, rfl⟩
  have pb2 : zl p2 ≤ 25 ∧ (-3000 ≤ s2 ∧ s2 ≤ 3000) ∧ p2 ≠ 0 := by rw [← hp2, ← hs2]; split <;> refine ⟨by omega, by omega, by omega⟩
  rw [hp2, hs2] at bs2 v2
  have qu2 := fun v u W h1 h2 => aquot_any un e p2 s2 v u W h1 h2 (by omega) (by omega) (by omega) (by omega) pb2.2.2
  have qs2 := qt_small (m := un) (e := e) (n := p2) (f := s2) pb2.2.2 (by omega) (by omega) (by omega) (by omega)
  have qp2 := qt_pos un e p2 s2
  obtain ⟨qa2, ha2⟩ : ∃ x, qtA un e p2 s2 = x := ⟨_, rfl⟩
  obtain ⟨qd2, hdd2⟩ : ∃ x, qtD un e p2 s2 = x := ⟨_, rfl⟩
  rw [ha2, hdd2] at v2 qu2 qs2
  rw [hdd2] at qp2
  rw [fh] at v2
  have en := fun v u W h1 h2 (hW : Below w.heap.size w W) => aenclR_any qa1 qd1 qa2 qd2 k v u W h1 h2 qs1.1 qs1.2 qp1 qs2.1 qs2.2 qp2 hw (hT.mono hW)
  rw [v1, v2] at en
  have BS1 := Lib.hid bs1
  have BS2 := Lib.hid bs2
  have QU1 := Lib.hid qu1
  have QU2 := Lib.hid qu2
  have EN := Lib.hid en
  clear bs1 bs2 qu1 qu2 en v1 v2 hp1 hp2 hs1 hs2 pb1 pb2 qs1 qs2 qp1 qp2 ha1 ha2 hdd1 hdd2
  have OX := Lib.hid O1
  have OY := Lib.hid O2
  clear O1 O2 hd3 hd4 fl fh q1 q2 hum hun hvm hvn z1 z2 z3 z4 hlo hhi hw hx0 hx1 ps1 ps2 hx hy hn1 hn2 hn3 hn4 lm ln lm2 ln2 he hf he2 hf2 hd1 hd2 hk1 hk2 hT
  go_enter Tryz.func23, Tryz.ntmps23
  go_wp2_with fail
  have L := (((L0.varI (w.heap.size) (by simp) (ng m) A (zl m) c e (ng n) B (zl n) d f).varI (w.heap.size + 1) (by simp) (ng m2) A2 (zl m2) k2 e2 (ng n2) B2 (zl n2) d2 f2).varI (w.heap.size + 2) (by simp) false none 0 0 0 false none 0 0 0)
  obtain ⟨gr, hgr⟩ : ∃ gr, w.heap.size + 1 + 1 = gr := ⟨_, rfl⟩
  have hgr2 : w.heap.size + 2 = gr := hgr
  rw [hgr2] at L
  rw [hgr]
  have hgr3 : w.heap.size + 1 < gr := by omega
  clear hgr hgr2
  have c00 := L.b0.c60
  have f00 := L.b0.fr 0
  have c01 := L.b0.c61
  have f01 := L.b0.fr 1
  have c02 := L.b0.c62
  have f02 := L.b0.fr 2
  have c03 := L.b0.c63
  have f03 := L.b0.fr 3
  have c04 := L.b0.c64
  have f04 := L.b0.fr 4
  have c05 := L.b0.c65
  have f05 := L.b0.fr 5
  have c10 := L.tl.b0.c60
  have c11 := L.tl.b0.c61
  have c12 := L.tl.b0.c62
  have c13 := L.tl.b0.c63
  have c14 := L.tl.b0.c64
  have c15 := L.tl.b0.c65
  (try go_wp2_with fail)
  refine (S.out _ _ (isI_n (m := m2) (e := e2) (n := n2) (f := f2) (L.getN (v := .slice A2 (zl m2) k2) (x := (m2).natAbs) (by simp)) (L.getN (v := .slice B2 (zl n2) d2) (x := (n2).natAbs) (by simp)))).mono ?_
  rintro e w1 ⟨rfl, be⟩
  clear c00 f00 c01 f01 c02 f02 c03 f03 c04 f04 c05 f05 c10 c11 c12 c13 c14 c15
  replace L := L.step be
  clear be
  have c00 := L.b0.c60
  have f00 := L.b0.fr 0
  have c01 := L.b0.c61
  have f01 := L.b0.fr 1
  have c02 := L.b0.c62
  have f02 := L.b0.fr 2
  have c03 := L.b0.c63
  have f03 := L.b0.fr 3
  have c04 := L.b0.c64
  have f04 := L.b0.fr 4
  have c05 := L.b0.c65
  have f05 := L.b0.fr 5
  (try go_wp2_with fail)
  refine (HW.out _).mono ?_
  rintro e9 w' ⟨rfl, rfl⟩
  (try go_wp2_with fail)
  clear c00 f00 c01 f01 c02 f02 c03 f03 c04 f04 c05 f05
  have hgr8 := L.b0.lt
  replace L := L.drew
  have c00 := L.b0.c60
  have c01 := L.b0.c61
  have c02 := L.b0.c62
  have c03 := L.b0.c63
  have c04 := L.b0.c64
  have c05 := L.b0.c65
  have c10 := L.tl.b0.c60
  have f10 := L.tl.b0.fr 0
  have c11 := L.tl.b0.c61
  have f11 := L.tl.b0.fr 1
  have c12 := L.tl.b0.c62
  have f12 := L.tl.b0.fr 2
  have c13 := L.tl.b0.c63
  have f13 := L.tl.b0.fr 3
  have c14 := L.tl.b0.c64
  have f14 := L.tl.b0.fr 4
  have c15 := L.tl.b0.c65
  have f15 := L.tl.b0.fr 5
  have c20 := L.tl.tl.b0.c60
  have f20 := L.tl.tl.b0.fr 0
  have c21 := L.tl.tl.b0.c61
  have f21 := L.tl.tl.b0.fr 1
  have c22 := L.tl.tl.b0.c62
  have f22 := L.tl.tl.b0.fr 2
  have c23 := L.tl.tl.b0.c63
  have f23 := L.tl.tl.b0.fr 3
  have c24 := L.tl.tl.b0.c64
  have f24 := L.tl.tl.b0.fr 4
  have c25 := L.tl.tl.b0.c65
  have f25 := L.tl.tl.b0.fr 5
  go_region_with (first | (go_at_call 46; (with_reducible refine (OX.out _ _ ?_).mono ?_); (· (refine isI_n (L.getN ?_) (L.getN ?_) <;> (repeat (first | (with_reducible exact List.mem_cons_self) | apply List.mem_cons_of_mem)))); rintro e9 wh ⟨vh, rfl, ii, be⟩; obtain ⟨A5, c5, B5, d5, rfl, ia, ib⟩ := ii.form; replace L := ((L.step be).n ib).n ia; clear be ii ia ib; (try (have x10 := L.tl.b0.c60; have x11 := L.tl.b0.c61; have x12 := L.tl.b0.c62; have x13 := L.tl.b0.c63; have x14 := L.tl.b0.c64; have x15 := L.tl.b0.c65; have x20 := L.tl.tl.b0.c60; have x21 := L.tl.tl.b0.c61; have x22 := L.tl.tl.b0.c62; have x23 := L.tl.tl.b0.c63; have x24 := L.tl.tl.b0.c64; have x25 := L.tl.tl.b0.c65; have y10 := L.tl.b0.fr 0; have y11 := L.tl.b0.fr 1; have y12 := L.tl.b0.fr 2; have y13 := L.tl.b0.fr 3; have y14 := L.tl.b0.fr 4; have y15 := L.tl.b0.fr 5; have y20 := L.tl.tl.b0.fr 0; have y21 := L.tl.tl.b0.fr 1; have y22 := L.tl.tl.b0.fr 2; have y23 := L.tl.tl.b0.fr 3; have y24 := L.tl.tl.b0.fr 4; have y25 := L.tl.tl.b0.fr 5))) | (go_at_call 46; (with_reducible refine (OY.out _ _ ?_).mono ?_); (· (refine isI_n (L.getN ?_) (L.getN ?_) <;> (repeat (first | (with_reducible exact List.mem_cons_self) | apply List.mem_cons_of_mem)))); rintro e9 wh ⟨vh, rfl, ii, be⟩; obtain ⟨A6, c6, B6, d6, rfl, ia, ib⟩ := ii.form; replace L := ((L.step be).n ib).n ia; clear be ii ia ib; (try (have x10 := L.tl.b0.c60; have x11 := L.tl.b0.c61; have x12 := L.tl.b0.c62; have x13 := L.tl.b0.c63; have x14 := L.tl.b0.c64; have x15 := L.tl.b0.c65; have x20 := L.tl.tl.b0.c60; have x21 := L.tl.tl.b0.c61; have x22 := L.tl.tl.b0.c62; have x23 := L.tl.tl.b0.c63; have x24 := L.tl.tl.b0.c64; have x25 := L.tl.tl.b0.c65; have y10 := L.tl.b0.fr 0; have y11 := L.tl.b0.fr 1; have y12 := L.tl.b0.fr 2; have y13 := L.tl.b0.fr 3; have y14 := L.tl.b0.fr 4; have y15 := L.tl.b0.fr 5; have y20 := L.tl.tl.b0.fr 0; have y21 := L.tl.tl.b0.fr 1; have y22 := L.tl.tl.b0.fr 2; have y23 := L.tl.tl.b0.fr 3; have y24 := L.tl.tl.b0.fr 4; have y25 := L.tl.tl.b0.fr 5))))
  all_goals
    have L1 := L.pull2.putI (by omega) (by first | (simp; done) | (simp; omega)) (ng um) A5 (zl um) c5 f (ng un) B5 (zl un) d5 e
    have L2 := L1.pull2.putI (by omega) (by first | (simp; done) | (simp; omega)) (ng vm) A6 (zl vm) c6 f2 (ng vn) B6 (zl vn) d6 e2
    have L3 := L2.pull2
    unfold put6 at L3
    (try go_wp2_with fail)
    obtain ⟨wd0, hwd0, L⟩ := (((((((((Lq.mk0 w).step L3.below).n (L3.getN (v := .slice B6 (zl vn) d6) (x := (vn).natAbs) (by simp))).n (L3.getN (v := .slice A6 (zl vm) c6) (x := (vm).natAbs) (by simp))).n (L3.getN (v := .slice B5 (zl un) d5) (x := (un).natAbs) (by simp))).n (L3.getN (v := .slice A5 (zl um) c5) (x := (um).natAbs) (by simp))).b L3.tl.tl.b0).b L3.tl.b0).b L3.b0).name
    rw [hwd0]
    clear L1 L2 L3 hwd0
    have Q0 := Lib.hid (fun Z (hZ : Below wd0.heap.size wd0 Z) => (L.tl.tl.b0.mono hZ).c60)
    have Q1 := Lib.hid (fun Z (hZ : Below wd0.heap.size wd0 Z) => (L.tl.tl.b0.mono hZ).c61)
    have Q2 := Lib.hid (fun Z (hZ : Below wd0.heap.size wd0 Z) => (L.tl.tl.b0.mono hZ).c62)
    have Q3 := Lib.hid (fun Z (hZ : Below wd0.heap.size wd0 Z) => (L.tl.tl.b0.mono hZ).c63)
    have Q4 := Lib.hid (fun Z (hZ : Below wd0.heap.size wd0 Z) => (L.tl.tl.b0.mono hZ).c64)
    have Q5 := Lib.hid (fun Z (hZ : Below wd0.heap.size wd0 Z) => (L.tl.tl.b0.mono hZ).c65)
    have Q6 := Lib.hid (fun Z (hZ : Below wd0.heap.size wd0 Z) => (L.tl.b0.mono hZ).c60)
    have Q7 := Lib.hid (fun Z (hZ : Below wd0.heap.size wd0 Z) => (L.tl.b0.mono hZ).c61)
    have Q8 := Lib.hid (fun Z (hZ : Below wd0.heap.size wd0 Z) => (L.tl.b0.mono hZ).c62)
    have Q9 := Lib.hid (fun Z (hZ : Below wd0.heap.size wd0 Z) => (L.tl.b0.mono hZ).c63)
    have Q10 := Lib.hid (fun Z (hZ : Below wd0.heap.size wd0 Z) => (L.tl.b0.mono hZ).c64)
    have Q11 := Lib.hid (fun Z (hZ : Below wd0.heap.size wd0 Z) => (L.tl.b0.mono hZ).c65)
    have hb1 := L.tl.tl.b0.lt
    have hb2 := L.tl.b0.lt
    have D0 : Dq wd0 wd0 [(.slice A5 (zl um) c5, um.natAbs), (.slice B5 (zl un) d5, un.natAbs), (.slice A6 (zl vm) c6, vm.natAbs), (.slice B6 (zl vn) d6, vn.natAbs)] [] [] [] := ⟨((((Lq.mk0 wd0).n (L.getN (v := .slice B6 (zl vn) d6) (x := (vn).natAbs) (by simp))).n (L.getN (v := .slice A6 (zl vm) c6) (x := (vm).natAbs) (by simp))).n (L.getN (v := .slice B5 (zl un) d5) (x := (un).natAbs) (by simp))).n (L.getN (v := .slice A5 (zl um) c5) (x := (um).natAbs) (by simp)), List.nodup_nil, fun p hp => by cases hp⟩
    have D := D0.drew
    have LL := Lib.hid L
    clear L
    obtain ⟨K, hK⟩ : ∃ K, wd0.heap.size = K := ⟨_, rfl⟩
    have hz0 : K ≤ wd0.heap.size := by omega
    have hc1 : w.heap.size < K := by omega
    have hc2 : w.heap.size + 1 < K := by omega
    have hmd : wd0.drew.heap.size = K := hK
    go_cut [10] from 40 to 50 (fun s5 wx => Made1Q wd0 qa1 qd1 s5 wx)
    case first =>
      go_region_held3 (fun w' => w'.cell? ⟨w.heap.size, 0, none⟩ = some (.bool (ng um)) ∧ w'.cell? ⟨w.heap.size, 1, none⟩ = some (.slice A5 (zl um) c5) ∧ w'.cell? ⟨w.heap.size, 2, none⟩ = some (.int .i64 f) ∧ w'.cell? ⟨w.heap.size, 3, none⟩ = some (.bool (ng un)) ∧ w'.cell? ⟨w.heap.size, 4, none⟩ = some (.slice B5 (zl un) d5) ∧ w'.cell? ⟨w.heap.size, 5, none⟩ = some (.int .i64 e) ∧ w'.cell? ⟨w.heap.size + 1, 0, none⟩ = some (.bool (ng vm)) ∧ w'.cell? ⟨w.heap.size + 1, 1, none⟩ = some (.slice A6 (zl vm) c6) ∧ w'.cell? ⟨w.heap.size + 1, 2, none⟩ = some (.int .i64 f2) ∧ w'.cell? ⟨w.heap.size + 1, 3, none⟩ = some (.bool (ng vn)) ∧ w'.cell? ⟨w.heap.size + 1, 4, none⟩ = some (.slice B6 (zl vn) d6) ∧ w'.cell? ⟨w.heap.size + 1, 5, none⟩ = some (.int .i64 e2)) (((try dsimp only); refine ⟨?_, ?_, ?_, ?_, ?_, ?_, ?_, ?_, ?_, ?_, ?_, ?_⟩ <;> (repeat (first | (with_reducible exact Q0.out _ D.lq.below) | (with_reducible exact Q0.out _ D0.lq.below) | (with_reducible exact Q1.out _ D.lq.below) | (with_reducible exact Q1.out _ D0.lq.below) | (with_reducible exact Q2.out _ D.lq.below) | (with_reducible exact Q2.out _ D0.lq.below) | (with_reducible exact Q3.out _ D.lq.below) | (with_reducible exact Q3.out _ D0.lq.below) | (with_reducible exact Q4.out _ D.lq.below) | (with_reducible exact Q4.out _ D0.lq.below) | (with_reducible exact Q5.out _ D.lq.below) | (with_reducible exact Q5.out _ D0.lq.below) | (with_reducible exact Q6.out _ D.lq.below) | (with_reducible exact Q6.out _ D0.lq.below) | (with_reducible exact Q7.out _ D.lq.below) | (with_reducible exact Q7.out _ D0.lq.below) | (with_reducible exact Q8.out _ D.lq.below) | (with_reducible exact Q8.out _ D0.lq.below) | (with_reducible exact Q9.out _ D.lq.below) | (with_reducible exact Q9.out _ D0.lq.below) | (with_reducible exact Q10.out _ D.lq.below) | (with_reducible exact Q10.out _ D0.lq.below) | (with_reducible exact Q11.out _ D.lq.below) | (with_reducible exact Q11.out _ D0.lq.below) | (with_reducible refine c_alloc _ ?_) | (with_reducible refine c_drew ?_) | (with_reducible refine c_set ?_ (by assumption) ?_) | omega)))) (first | (go_at_call 61; (with_reducible refine (BS1.out _ _ _ _ ?_ ?_ ?_).mono ?_); (· (first | (with_reducible refine isD_n (D.getN ?_); (repeat (first | (with_reducible exact List.mem_cons_self) | apply List.mem_cons_of_mem))) | (with_reducible refine isD_n ((D.box false none none 0 0 0 0).getN ?_); (repeat (first | (with_reducible exact List.mem_cons_self) | apply List.mem_cons_of_mem))) | (with_reducible refine isD_n ((D0.box false none none 0 0 0 0).drew.getN ?_); (repeat (first | (with_reducible exact List.mem_cons_self) | apply List.mem_cons_of_mem))))); (· (first | (with_reducible refine isD_n (D.getN ?_); (repeat (first | (with_reducible exact List.mem_cons_self) | apply List.mem_cons_of_mem))) | (with_reducible refine isD_n ((D.box false none none 0 0 0 0).getN ?_); (repeat (first | (with_reducible exact List.mem_cons_self) | apply List.mem_cons_of_mem))) | (with_reducible refine isD_n ((D0.box false none none 0 0 0 0).drew.getN ?_); (repeat (first | (with_reducible exact List.mem_cons_self) | apply List.mem_cons_of_mem))))); (· (first | (with_reducible refine isD_n (D.getN ?_); (repeat (first | (with_reducible exact List.mem_cons_self) | apply List.mem_cons_of_mem))) | (with_reducible refine isD_n ((D.box false none none 0 0 0 0).getN ?_); (repeat (first | (with_reducible exact List.mem_cons_self) | apply List.mem_cons_of_mem))) | (with_reducible refine isD_n ((D0.box false none none 0 0 0 0).drew.getN ?_); (repeat (first | (with_reducible exact List.mem_cons_self) | apply List.mem_cons_of_mem))))); rintro e9 wh ⟨vh, rfl, id, be⟩; obtain ⟨A7, c7, rfl, _, in9⟩ := id.form; (first | (replace D := D.step be) | (replace D := (D.boxM hmd false none none 0 0 0 0).step be) | (replace D := (D.box false none none 0 0 0 0).step be)); have hz := be.size; (try simp at hz); replace D := D.n in9; clear id in9; (try (have x00 := D.lq.b0.c30; have x01 := D.lq.b0.c31; have x02 := D.lq.b0.c32; have y00 := D.lq.b0.fr 0; have y01 := D.lq.b0.fr 1; have y02 := D.lq.b0.fr 2)); (try obtain ⟨na, nb, nc, nd, nl⟩ := D.n0)) | (go_at_call 60; (with_reducible refine (QU1.out _ _ _ ?_ ?_).mono ?_); (· (first | (with_reducible refine isD_n (D.getN ?_); (repeat (first | (with_reducible exact List.mem_cons_self) | apply List.mem_cons_of_mem))) | (with_reducible refine isD_n ((D.box false none none 0 0 0 0).getN ?_); (repeat (first | (with_reducible exact List.mem_cons_self) | apply List.mem_cons_of_mem))) | (with_reducible refine isD_n ((D0.box false none none 0 0 0 0).drew.getN ?_); (repeat (first | (with_reducible exact List.mem_cons_self) | apply List.mem_cons_of_mem))))); (· (first | (with_reducible refine isD_n (D.getN ?_); (repeat (first | (with_reducible exact List.mem_cons_self) | apply List.mem_cons_of_mem))) | (with_reducible refine isD_n ((D.box false none none 0 0 0 0).getN ?_); (repeat (first | (with_reducible exact List.mem_cons_self) | apply List.mem_cons_of_mem))) | (with_reducible refine isD_n ((D0.box false none none 0 0 0 0).drew.getN ?_); (repeat (first | (with_reducible exact List.mem_cons_self) | apply List.mem_cons_of_mem))))); rintro e9 wh ⟨vh, rfl, iq, be⟩; obtain ⟨A8, c8, B8, k8, rfl, _, _, _⟩ := iq.form; (first | (replace D := D.step be) | (replace D := (D.boxM hmd false none none 0 0 0 0).step be) | (replace D := (D.box false none none 0 0 0 0).step be)); have hz := be.size; (try simp at hz); replace D := D.q iq; clear iq; (try (have x00 := D.lq.b0.c30; have x01 := D.lq.b0.c31; have x02 := D.lq.b0.c32; have y00 := D.lq.b0.fr 0; have y01 := D.lq.b0.fr 1; have y02 := D.lq.b0.fr 2)); (try obtain ⟨na, nb, nc, nd, nl⟩ := D.n0)))
      all_goals
        go_wp2_with fail
        go_meet
        first
        | ((with_reducible refine made1q_a D ?_) <;> (repeat (first | (with_reducible exact List.mem_cons_self) | apply List.mem_cons_of_mem)))
        | ((with_reducible refine made1q_b D ?_) <;> (repeat (first | (with_reducible exact List.mem_cons_self) | apply List.mem_cons_of_mem)))
    case rest =>
      obtain ⟨gq1, Aq1, cq1, Bq1, kq1, rfl, hg, bw, hb3, iq⟩ := hcut
      have hg4 := LL.out.b0.lt
      have hgq1 : gr < gq1 := by omega
      have hgs1 := hb3.lt
      have L := ((LL.out.step bw).q iq).b hb3
      clear D D0 hmd hz0 hK LL hb3 iq bw hb1 hb2 hc1 hc2 hg hg4 Q0 Q1 Q2 Q3 Q4 Q5 Q6 Q7 Q8 Q9 Q10 Q11
      generalize wc = wd1 at *
      (try go_wp2_with fail)
      replace L := L.swap
      have Q0 := Lib.hid (fun Z (hZ : Below wd1.heap.size wd1 Z) => (L.tl.tl.tl.b0.mono hZ).c60)
      have Q1 := Lib.hid (fun Z (hZ : Below wd1.heap.size wd1 Z) => (L.tl.tl.tl.b0.mono hZ).c61)
      have Q2 := Lib.hid (fun Z (hZ : Below wd1.heap.size wd1 Z) => (L.tl.tl.tl.b0.mono hZ).c62)
      have Q3 := Lib.hid (fun Z (hZ : Below wd1.heap.size wd1 Z) => (L.tl.tl.tl.b0.mono hZ).c63)
      have Q4 := Lib.hid (fun Z (hZ : Below wd1.heap.size wd1 Z) => (L.tl.tl.tl.b0.mono hZ).c64)
      have Q5 := Lib.hid (fun Z (hZ : Below wd1.heap.size wd1 Z) => (L.tl.tl.tl.b0.mono hZ).c65)
      have Q6 := Lib.hid (fun Z (hZ : Below wd1.heap.size wd1 Z) => (L.tl.tl.b0.mono hZ).c60)
      have Q7 := Lib.hid (fun Z (hZ : Below wd1.heap.size wd1 Z) => (L.tl.tl.b0.mono hZ).c61)
      have Q8 := Lib.hid (fun Z (hZ : Below wd1.heap.size wd1 Z) => (L.tl.tl.b0.mono hZ).c62)
      have Q9 := Lib.hid (fun Z (hZ : Below wd1.heap.size wd1 Z) => (L.tl.tl.b0.mono hZ).c63)
      have Q10 := Lib.hid (fun Z (hZ : Below wd1.heap.size wd1 Z) => (L.tl.tl.b0.mono hZ).c64)
      have Q11 := Lib.hid (fun Z (hZ : Below wd1.heap.size wd1 Z) => (L.tl.tl.b0.mono hZ).c65)
      have hb1 := L.tl.tl.tl.b0.lt
      have hb2 := L.tl.tl.b0.lt
      have D0 : Dq wd1 wd1 [(.slice A5 (zl um) c5, um.natAbs), (.slice B5 (zl un) d5, un.natAbs), (.slice A6 (zl vm) c6, vm.natAbs), (.slice B6 (zl vn) d6, vn.natAbs)] [] [] [] := ⟨((((Lq.mk0 wd1).n (L.getN (v := .slice B6 (zl vn) d6) (x := (vn).natAbs) (by simp))).n (L.getN (v := .slice A6 (zl vm) c6) (x := (vm).natAbs) (by simp))).n (L.getN (v := .slice B5 (zl un) d5) (x := (un).natAbs) (by simp))).n (L.getN (v := .slice A5 (zl um) c5) (x := (um).natAbs) (by simp)), List.nodup_nil, fun p hp => by cases hp⟩
      have D := D0.drew
      have LL := Lib.hid L
      clear L
      obtain ⟨K, hK⟩ : ∃ K, wd1.heap.size = K := ⟨_, rfl⟩
      have hz0 : K ≤ wd1.heap.size := by omega
      have hc1 : w.heap.size < K := by omega
      have hc2 : w.heap.size + 1 < K := by omega
      have hmd : wd1.drew.heap.size = K := hK
      go_cut [11] from 50 to 60 (fun s5 wx => Made1Q wd1 qa2 qd2 s5 wx)
      case first =>
        go_region_held3 (fun w' => w'.cell? ⟨w.heap.size, 0, none⟩ = some (.bool (ng um)) ∧ w'.cell? ⟨w.heap.size, 1, none⟩ = some (.slice A5 (zl um) c5) ∧ w'.cell? ⟨w.heap.size, 2, none⟩ = some (.int .i64 f) ∧ w'.cell? ⟨w.heap.size, 3, none⟩ = some (.bool (ng un)) ∧ w'.cell? ⟨w.heap.size, 4, none⟩ = some (.slice B5 (zl un) d5) ∧ w'.cell? ⟨w.heap.size, 5, none⟩ = some (.int .i64 e) ∧ w'.cell? ⟨w.heap.size + 1, 0, none⟩ = some (.bool (ng vm)) ∧ w'.cell? ⟨w.heap.size + 1, 1, none⟩ = some (.slice A6 (zl vm) c6) ∧ w'.cell? ⟨w.heap.size + 1, 2, none⟩ = some (.int .i64 f2) ∧ w'.cell? ⟨w.heap.size + 1, 3, none⟩ = some (.bool (ng vn)) ∧ w'.cell? ⟨w.heap.size + 1, 4, none⟩ = some (.slice B6 (zl vn) d6) ∧ w'.cell? ⟨w.heap.size + 1, 5, none⟩ = some (.int .i64 e2)) (((try dsimp only); refine ⟨?_, ?_, ?_, ?_, ?_, ?_, ?_, ?_, ?_, ?_, ?_, ?_⟩ <;> (repeat (first | (with_reducible exact Q0.out _ D.lq.below) | (with_reducible exact Q0.out _ D0.lq.below) | (with_reducible exact Q1.out _ D.lq.below) | (with_reducible exact Q1.out _ D0.lq.below) | (with_reducible exact Q2.out _ D.lq.below) | (with_reducible exact Q2.out _ D0.lq.below) | (with_reducible exact Q3.out _ D.lq.below) | (with_reducible exact Q3.out _ D0.lq.below) | (with_reducible exact Q4.out _ D.lq.below) | (with_reducible exact Q4.out _ D0.lq.below) | (with_reducible exact Q5.out _ D.lq.below) | (with_reducible exact Q5.out _ D0.lq.below) | (with_reducible exact Q6.out _ D.lq.below) | (with_reducible exact Q6.out _ D0.lq.below) | (with_reducible exact Q7.out _ D.lq.below) | (with_reducible exact Q7.out _ D0.lq.below) | (with_reducible exact Q8.out _ D.lq.below) | (with_reducible exact Q8.out _ D0.lq.below) | (with_reducible exact Q9.out _ D.lq.below) | (with_reducible exact Q9.out _ D0.lq.below) | (with_reducible exact Q10.out _ D.lq.below) | (with_reducible exact Q10.out _ D0.lq.below) | (with_reducible exact Q11.out _ D.lq.below) | (with_reducible exact Q11.out _ D0.lq.below) | (with_reducible refine c_alloc _ ?_) | (with_reducible refine c_drew ?_) | (with_reducible refine c_set ?_ (by assumption) ?_) | omega)))) (first | (go_at_call 61; (with_reducible refine (BS2.out _ _ _ _ ?_ ?_ ?_).mono ?_); (· (first | (with_reducible refine isD_n (D.getN ?_); (repeat (first | (with_reducible exact List.mem_cons_self) | apply List.mem_cons_of_mem))) | (with_reducible refine isD_n ((D.box false none none 0 0 0 0).getN ?_); (repeat (first | (with_reducible exact List.mem_cons_self) | apply List.mem_cons_of_mem))) | (with_reducible refine isD_n ((D0.box false none none 0 0 0 0).drew.getN ?_); (repeat (first | (with_reducible exact List.mem_cons_self) | apply List.mem_cons_of_mem))))); (· (first | (with_reducible refine isD_n (D.getN ?_); (repeat (first | (with_reducible exact List.mem_cons_self) | apply List.mem_cons_of_mem))) | (with_reducible refine isD_n ((D.box false none none 0 0 0 0).getN ?_); (repeat (first | (with_reducible exact List.mem_cons_self) | apply List.mem_cons_of_mem))) | (with_reducible refine isD_n ((D0.box false none none 0 0 0 0).drew.getN ?_); (repeat (first | (with_reducible exact List.mem_cons_self) | apply List.mem_cons_of_mem))))); (· (first | (with_reducible refine isD_n (D.getN ?_); (repeat (first | (with_reducible exact List.mem_cons_self) | apply List.mem_cons_of_mem))) | (with_reducible refine isD_n ((D.box false none none 0 0 0 0).getN ?_); (repeat (first | (with_reducible exact List.mem_cons_self) | apply List.mem_cons_of_mem))) | (with_reducible refine isD_n ((D0.box false none none 0 0 0 0).drew.getN ?_); (repeat (first | (with_reducible exact List.mem_cons_self) | apply List.mem_cons_of_mem))))); rintro e9 wh ⟨vh, rfl, id, be⟩; obtain ⟨A7, c7, rfl, _, in9⟩ := id.form; (first | (replace D := D.step be) | (replace D := (D.boxM hmd false none none 0 0 0 0).step be) | (replace D := (D.box false none none 0 0 0 0).step be)); have hz := be.size; (try simp at hz); replace D := D.n in9; clear id in9; (try (have x00 := D.lq.b0.c30; have x01 := D.lq.b0.c31; have x02 := D.lq.b0.c32; have y00 := D.lq.b0.fr 0; have y01 := D.lq.b0.fr 1; have y02 := D.lq.b0.fr 2)); (try obtain ⟨na, nb, nc, nd, nl⟩ := D.n0)) | (go_at_call 60; (with_reducible refine (QU2.out _ _ _ ?_ ?_).mono ?_); (· (first | (with_reducible refine isD_n (D.getN ?_); (repeat (first | (with_reducible exact List.mem_cons_self) | apply List.mem_cons_of_mem))) | (with_reducible refine isD_n ((D.box false none none 0 0 0 0).getN ?_); (repeat (first | (with_reducible exact List.mem_cons_self) | apply List.mem_cons_of_mem))) | (with_reducible refine isD_n ((D0.box false none none 0 0 0 0).drew.getN ?_); (repeat (first | (with_reducible exact List.mem_cons_self) | apply List.mem_cons_of_mem))))); (· (first | (with_reducible refine isD_n (D.getN ?_); (repeat (first | (with_reducible exact List.mem_cons_self) | apply List.mem_cons_of_mem))) | (with_reducible refine isD_n ((D.box false none none 0 0 0 0).getN ?_); (repeat (first | (with_reducible exact List.mem_cons_self) | apply List.mem_cons_of_mem))) | (with_reducible refine isD_n ((D0.box false none none 0 0 0 0).drew.getN ?_); (repeat (first | (with_reducible exact List.mem_cons_self) | apply List.mem_cons_of_mem))))); rintro e9 wh ⟨vh, rfl, iq, be⟩; obtain ⟨A8, c8, B8, k8, rfl, _, _, _⟩ := iq.form; (first | (replace D := D.step be) | (replace D := (D.boxM hmd false none none 0 0 0 0).step be) | (replace D := (D.box false none none 0 0 0 0).step be)); have hz := be.size; (try simp at hz); replace D := D.q iq; clear iq; (try (have x00 := D.lq.b0.c30; have x01 := D.lq.b0.c31; have x02 := D.lq.b0.c32; have y00 := D.lq.b0.fr 0; have y01 := D.lq.b0.fr 1; have y02 := D.lq.b0.fr 2)); (try obtain ⟨na, nb, nc, nd, nl⟩ := D.n0)))
        all_goals
          go_wp2_with fail
          go_meet
          first
          | ((with_reducible refine made1q_a D ?_) <;> (repeat (first | (with_reducible exact List.mem_cons_self) | apply List.mem_cons_of_mem)))
          | ((with_reducible refine made1q_b D ?_) <;> (repeat (first | (with_reducible exact List.mem_cons_self) | apply List.mem_cons_of_mem)))
      case rest =>
        obtain ⟨gq2, Aq2, cq2, Bq2, kq2, rfl, hg, bw, hb3, iq⟩ := hcut
        have hg4 := LL.out.b0.lt
        have hgq2 : gr < gq2 := by omega
        have hgs2 := hb3.lt
        have L := ((LL.out.step bw).q iq).b hb3
        clear D D0 hmd hz0 hK LL hb3 iq bw hb1 hb2 hc1 hc2 hg hg4 Q0 Q1 Q2 Q3 Q4 Q5 Q6 Q7 Q8 Q9 Q10 Q11
        generalize wc = wd2 at *
        have c00 := L.b0.c30
        have c01 := L.b0.c31
        have c02 := L.b0.c32
        have c20 := L.tl.tl.b0.c30
        have c21 := L.tl.tl.b0.c31
        have c22 := L.tl.tl.b0.c32
        (try go_wp2_with fail)
        refine (EN.out _ _ _ (L.getQ (v := .agg #[.bool (ng qa1), .slice Aq1 (zl qa1) cq1, .slice Bq1 (len qd1) kq1]) (a := qa1) (d := qd1) (by simp)) (L.getQ (v := .agg #[.bool (ng qa2), .slice Aq2 (zl qa2) cq2, .slice Bq2 (len qd2) kq2]) (a := qa2) (d := qd2) (by simp)) L.below).mono ?_
        intro e9 w19 hen
        obtain ⟨v19, er, m9, e9', n9, f9, rfl, ii, be, hback⟩ := hen.form
        obtain ⟨A5, c5, B5, d5, rfl, ia, ib⟩ := ii.form
        replace L := (((L.step be).n ib).n ia).swap
        clear be ii ia ib hen
        have HBK := Lib.hid hback
        clear hback
        clear c00 c01 c02 c20 c21 c22
        have c00 := L.b0.c60
        have f00 := L.b0.fr 0
        have c01 := L.b0.c61
        have f01 := L.b0.fr 1
        have c02 := L.b0.c62
        have f02 := L.b0.fr 2
        have c03 := L.b0.c63
        have f03 := L.b0.fr 3
        have c04 := L.b0.c64
        have f04 := L.b0.fr 4
        have c05 := L.b0.c65
        have f05 := L.b0.fr 5
        go_wp2_with fail
        have LP := L.putI (by omega) (by first | (simp; done) | (simp; omega)) (ng m9) A5 (zl m9) c5 e9' (ng n9) B5 (zl n9) d5 f9
        have k0' := LP.b0.c60
        have k1' := LP.b0.c61
        have k2' := LP.b0.c62
        have k3' := LP.b0.c63
        have k4' := LP.b0.c64
        have k5' := LP.b0.c65
        unfold put6 at k0' k1' k2' k3' k4' k5'
        exact bodyPost_ret (v := .tuple #[.agg #[.bool (ng m9), .slice A5 (zl m9) c5, .int .i64 e9', .bool (ng n9), .slice B5 (zl n9) d5, .int .i64 f9], .int .i64 er]) (by simp [results, Tryz.results23, go_sem, k0', k1', k2', k3', k4', k5']) rfl (HBK.out _ _ _ (isI_n (LP.getN (by simp)) (LP.getN (by simp))) LP.below)

end Go.Proofs.YtoobcngbnjeddaaGreatDoor
