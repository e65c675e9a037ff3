/- The walk of ArithShrinks: whatever the input, the law returns true and turns nothing that was there. -/
import Derived.Test.YtoobcngbnjeddaaGreatDoorAwake11
import Derived.Test.YtoobcngbnjeddaaGreatDoorBaseW
import Derived.Test.YtoobcngbnjeddaaGreatDoorArSm
import Derived.Test.YtoobcngbnjeddaaGreatDoorBaseV
import Derived.Deep.RegionHeld3
import Derived.Deep.DrawnRows
import Derived.Deep.Cut
import Derived.Deep.CutRange
namespace Go.Proofs.YtoobcngbnjeddaaGreatDoor
open Go.RowKit
set_option linter.unusedVariables false
set_option linter.unusedSimpArgs false
set_option maxRecDepth 100000
attribute [local go_sem ↓] Go.wp_at_zero Go.wp_at_succ

set_option maxHeartbeats 64000000 in
theorem walk_ArithShrinks (b0 : Bool) (a0 : Option Addr) (len0 cap0 : Nat) (z0 : List Nat) (f0 : Int) (bb0 : Bool) (aa0 : Option Addr) (ll0 cc0 : Nat) (zz0 : List Nat) (ff0 : Int) (b1 : Bool) (a1 : Option Addr) (len1 cap1 : Nat) (z1 : List Nat) (f1 : Int) (bb1 : Bool) (aa1 : Option Addr) (ll1 cc1 : Nat) (zz1 : List Nat) (ff1 : Int) (a2 : Int) (a3 : Int) (w : World) (h0 : Sl w a0 len0 cap0 z0 ∧ -9223372036854775808 ≤ f0 ∧ f0 ≤ 9223372036854775807) (k0 : Sl w aa0 ll0 cc0 zz0 ∧ -9223372036854775808 ≤ ff0 ∧ ff0 ≤ 9223372036854775807) (h1 : Sl w a1 len1 cap1 z1 ∧ -9223372036854775808 ≤ f1 ∧ f1 ≤ 9223372036854775807) (k1 : Sl w aa1 ll1 cc1 zz1 ∧ -9223372036854775808 ≤ ff1 ∧ ff1 ≤ 9223372036854775807) (h2 : -9223372036854775808 ≤ a2 ∧ a2 ≤ 9223372036854775807) (h3 : -9223372036854775808 ≤ a3 ∧ a3 ≤ 9223372036854775807) (hT : Tab w) :
    Calls Tryz.prog 7 #[.agg #[.bool b0, .slice a0 len0 cap0, .int .i64 f0, .bool bb0, .slice aa0 ll0 cc0, .int .i64 ff0], .agg #[.bool b1, .slice a1 len1 cap1, .int .i64 f1, .bool bb1, .slice aa1 ll1 cc1, .int .i64 ff1], .int .i64 a2, .int .i64 a3] w (fun e w' => e = .returned (.bool true) ∧ Below w.heap.size w w') := by
  have HT := Lib.hid (fun W (hW : Below w.heap.size w W) => hT.mono hW)
  clear hT
  go_enter Tryz.func7, Tryz.ntmps7
  go_wp2_with fail
  have L := (((Lq.mk0 w).varI (w.heap.size) (by simp) b0 a0 len0 cap0 f0 bb0 aa0 ll0 cc0 ff0).varI (w.heap.size + 1) (by simp) b1 a1 len1 cap1 f1 bb1 aa1 ll1 cc1 ff1)
  (try go_wp2_with fail)
  refine (awake11_any _ (HT.out _ L.below)).mono ?_
  rintro e9 w1 ⟨rfl, be⟩
  replace L := L.step be
  clear be
  have c00 := L.b0.c60
  have c01 := L.b0.c61
  have c02 := L.b0.c62
  have c03 := L.b0.c63
  have c04 := L.b0.c64
  have c05 := L.b0.c65
  have c10 := L.tl.b0.c60
  have c11 := L.tl.b0.c61
  have c12 := L.tl.b0.c62
  have c13 := L.tl.b0.c63
  have c14 := L.tl.b0.c64
  have c15 := L.tl.b0.c65
  (try go_wp2_with fail)
  refine (two11_any b0 bb0 z0 zz0 a0 aa0 len0 cap0 ll0 cc0 f0 ff0 b1 bb1 z1 zz1 a1 aa1 len1 cap1 ll1 cc1 f1 ff1 _ (h0.1.mono L.below) (k0.1.mono L.below) h0.2 k0.2 (h1.1.mono L.below) (k1.1.mono L.below) h1.2 k1.2).mono ?_
  rintro e9 w2 ⟨vx, vy, ok, m, e, n, f, m2, e2, n2, f2, rfl, ix, iy, ⟨lm, he⟩, ⟨ln, hf⟩, ⟨lm2, he2⟩, ⟨ln2, hf2⟩, hv, le1, le2, be⟩
  clear c00 c01 c02 c03 c04 c05 c10 c11 c12 c13 c14 c15
  obtain ⟨A, c, B, d, rfl, i1, i2⟩ := ix.form
  obtain ⟨A2, k2, B2, d2, rfl, i3, i4⟩ := iy.form
  replace L := ((((L.step be).n i4).n i3).n i2).n i1
  clear be ix iy i1 i2 i3 i4
  have hlt0 := L.b0.lt
  replace L := (L.varI w2.heap.size rfl (ng m) A (zl m) c e (ng n) B (zl n) d f).varI (w2.heap.size + 1) (by simp) (ng m2) A2 (zl m2) k2 e2 (ng n2) B2 (zl n2) d2 f2
  cases ok
  · go_wp2_with fail
    go_ret
    exact ⟨rfl, L.below⟩
  obtain ⟨_, dv2, _, dv4⟩ := hv rfl
  clear hv
  obtain ⟨_, _, _, t1, t2, t3, t4, _⟩ := thin_ok (j := 2) (by omega) lm ln he hf le1 dv2
  obtain ⟨_, _, _, t5, t6, t7, t8, _⟩ := thin_ok (j := 4) (by omega) lm2 ln2 he2 hf2 le2 dv4
  have x1 := fun v W h => (show Calls Tryz.prog 21 #[v, .int .i64 2] W (RetI6 W m e (thN m e n f 2) (thF m e n f 2)) from thin_any m e n f 2 (by omega) v W h lm ln he hf le1 dv2)
  have x2 := fun v W h => (show Calls Tryz.prog 21 #[v, .int .i64 4] W (RetI6 W m2 e2 (thN m2 e2 n2 f2 4) (thF m2 e2 n2 f2 4)) from thin_any m2 e2 n2 f2 4 (by omega) v W h lm2 ln2 he2 hf2 le2 dv4)
  obtain ⟨n3, hn3⟩ : ∃ z, thN m e n f 2 = z := ⟨_, rfl⟩
  obtain ⟨f3, hf3⟩ : ∃ z, thF m e n f 2 = z := ⟨_, rfl⟩
  obtain ⟨n4, hn4⟩ : ∃ z, thN m2 e2 n2 f2 4 = z := ⟨_, rfl⟩
  obtain ⟨f4, hf4⟩ : ∃ z, thF m2 e2 n2 f2 4 = z := ⟨_, rfl⟩
  rw [hn3, hf3] at x1 t3 t4
  rw [hn4, hf4] at x2 t7 t8
  rw [hn3] at t1
  rw [hf3] at t2
  rw [hn4] at t5
  rw [hf4] at t6
  clear hn3 hf3 hn4 hf4
  obtain ⟨r1, hr1⟩ : ∃ r : Nat, a2 % 60 = (r : Int) := ⟨(a2 % 60).toNat, by omega⟩
  have o1 := fun W => mod_any a2 60 W (by omega) (by omega) h2.1 h2.2
  rw [hr1] at o1
  obtain ⟨r2, hr2⟩ : ∃ r : Nat, a3 % 60 = (r : Int) := ⟨(a3 % 60).toNat, by omega⟩
  have o2 := fun W => mod_any a3 60 W (by omega) (by omega) h3.1 h3.2
  rw [hr2] at o2
  have br1 : r1 < 60 := by omega
  have br2 : r2 < 60 := by omega
  obtain ⟨r3, hr3⟩ : ∃ r : Nat, (r1 : Int) + (r2 : Int) = (r : Int) := ⟨r1 + r2, by omega⟩
  have hle3 : (r1 : Int) ≤ (r3 : Int) := by omega
  have br3 : r3 < 120 := by omega
  have ww : IntKind.i64.wrap ((r1 : Int) + (r2 : Int)) = (r3 : Int) := by rw [IntKind.wrap_i64]; omega
  clear hr1 hr2 hr3
  have c1 := (dcm_le _ _ _ _).1 le1
  have c2 := (dcm_le _ _ _ _).1 le2
  have c3 := (dcm_le _ _ _ _).1 t3
  have c4 := (dcm_le _ _ _ _).1 t7
  have ms := mul_shrink (Rat.le_refl : dq m e ≤ dq m e) t4 (Rat.le_refl : dq m2 e2 ≤ dq m2 e2) t8 c3 c4
  have s1 := sm_min4 (sm_mul lm lm2 he he2) (sm_mul lm ln2 he hf2) (sm_mul ln lm2 hf he2) (sm_mul ln ln2 hf hf2)
  have s2 := sm_max4 (sm_mul lm lm2 he he2) (sm_mul lm ln2 he hf2) (sm_mul ln lm2 hf he2) (sm_mul ln ln2 hf hf2)
  have s3 := sm_between s1 s2 ms.1 (Rat.le_trans (min4_le_max4 _ _ _ _) ms.2)
  have s4 := sm_between s1 s2 (Rat.le_trans ms.1 (min4_le_max4 _ _ _ _)) ms.2
  have s5 := sm_sub lm ln2 he hf2
  have s6 := sm_sub ln lm2 hf he2
  have y0 : dq m e - dq n2 f2 ≤ dq n f - dq m2 e2 := sub_mono c1 c2
  have y1 : dq m e - dq n2 f2 ≤ dq m e - dq n4 f4 := sub_mono Rat.le_refl t8
  have y2 : dq n3 f3 - dq m2 e2 ≤ dq n f - dq m2 e2 := sub_mono t4 Rat.le_refl
  have y3 : dq m e - dq n4 f4 ≤ dq n3 f3 - dq m2 e2 := sub_mono c3 c4
  have s7 := sm_between s5 s6 y1 (Rat.le_trans y3 y2)
  have s8 := sm_between s5 s6 (Rat.le_trans y1 y3) y2
  obtain ⟨M1, E1, N1, G1, fx1, ⟨zm1, ze1⟩, ⟨zn1, zg1⟩, _, _, hM1, hE1, hN1, hG1, F1, U1, l1, k1⟩ := sure_sm (k := (r1 : Int)) (by omega) (by omega) s1 s2 (min4_le_max4 _ _ _ _)
  obtain ⟨M2, E2, N2, G2, fx2, ⟨zm2, ze2⟩, ⟨zn2, zg2⟩, _, _, hM2, hE2, hN2, hG2, F2, U2, l2, k2⟩ := sure_sm (k := (r1 : Int)) (by omega) (by omega) s3 s4 (min4_le_max4 _ _ _ _)
  obtain ⟨M3, E3, N3, G3, fx3, ⟨zm3, ze3⟩, ⟨zn3, zg3⟩, _, _, hM3, hE3, hN3, hG3, F3, U3, l3, k3⟩ := sure_sm (k := (r3 : Int)) (by omega) (by omega) s1 s2 (min4_le_max4 _ _ _ _)
  obtain ⟨M4, E4, N4, G4, fx4, ⟨zm4, ze4⟩, ⟨zn4, zg4⟩, _, _, hM4, hE4, hN4, hG4, F4, U4, l4, k4⟩ := sure_sm (k := (r1 : Int)) (by omega) (by omega) s5 s6 y0
  obtain ⟨M5, E5, N5, G5, fx5, ⟨zm5, ze5⟩, ⟨zn5, zg5⟩, _, _, hM5, hE5, hN5, hG5, F5, U5, l5, k5⟩ := sure_sm (k := (r3 : Int)) (by omega) (by omega) s7 s8 y3
  have i1 : inB M2 E2 N2 G2 M1 E1 N1 G1 = true := (inB_iff _ _ _ _ _ _ _ _).2 ⟨by rw [hM2, hE2, hM1, hE1]; exact en_mono (Int.le_refl _) ms.1 F1 F2, by rw [hN2, hG2, hN1, hG1]; exact up_mono (Int.le_refl _) ms.2 U1 U2⟩
  have W1 := Lib.hid (fun v u W h1 h2 => (show Calls Tryz.prog 35 #[v, u] W (RetB W true) from by have s := r10within_any M2 E2 N2 G2 M1 E1 N1 G1 v u W h1 h2 (by omega) (by omega) (by omega) (by omega) (by omega) (by omega) (by omega) (by omega); rwa [i1] at s))
  have i2 : inB M3 E3 N3 G3 M1 E1 N1 G1 = true := (inB_iff _ _ _ _ _ _ _ _).2 ⟨by rw [hM3, hE3, hM1, hE1]; exact en_mono hle3 Rat.le_refl F1 F3, by rw [hN3, hG3, hN1, hG1]; exact up_mono hle3 Rat.le_refl U1 U3⟩
  have W2 := Lib.hid (fun v u W h1 h2 => (show Calls Tryz.prog 35 #[v, u] W (RetB W true) from by have s := r10within_any M3 E3 N3 G3 M1 E1 N1 G1 v u W h1 h2 (by omega) (by omega) (by omega) (by omega) (by omega) (by omega) (by omega) (by omega); rwa [i2] at s))
  have i3 : inB M5 E5 N5 G5 M4 E4 N4 G4 = true := (inB_iff _ _ _ _ _ _ _ _).2 ⟨by rw [hM5, hE5, hM4, hE4]; exact en_mono hle3 y1 F4 F5, by rw [hN5, hG5, hN4, hG4]; exact up_mono hle3 y2 U4 U5⟩
  have W3 := Lib.hid (fun v u W h1 h2 => (show Calls Tryz.prog 35 #[v, u] W (RetB W true) from by have s := r10within_any M5 E5 N5 G5 M4 E4 N4 G4 v u W h1 h2 (by omega) (by omega) (by omega) (by omega) (by omega) (by omega) (by omega) (by omega); rwa [i3] at s))
  have p1 := fun v u W h1 h2 (hW : Below w.heap.size w W) => amul_any m e n f m2 e2 n2 f2 (r1 : Int) v u W h1 h2 (by omega) (by omega) (by omega) (by omega) (by omega) (by omega) (by omega) (by omega) le1 le2 (by omega) (by omega) (HT.out W hW)
  simp only [fx1] at p1
  have P1 := Lib.hid p1
  clear p1 fx1
  have p2 := fun v u W h1 h2 (hW : Below w.heap.size w W) => amul_any m e n3 f3 m2 e2 n4 f4 (r1 : Int) v u W h1 h2 (by omega) (by omega) (by omega) (by omega) (by omega) (by omega) (by omega) (by omega) t3 t7 (by omega) (by omega) (HT.out W hW)
  simp only [fx2] at p2
  have P2 := Lib.hid p2
  clear p2 fx2
  have p3 := fun v u W h1 h2 (hW : Below w.heap.size w W) => amul_any m e n f m2 e2 n2 f2 (r3 : Int) v u W h1 h2 (by omega) (by omega) (by omega) (by omega) (by omega) (by omega) (by omega) (by omega) le1 le2 (by omega) (by omega) (HT.out W hW)
  simp only [fx3] at p3
  have P3 := Lib.hid p3
  clear p3 fx3
  have p4 := fun v u W h1 h2 (hW : Below w.heap.size w W) => asub_any m e n f m2 e2 n2 f2 (r1 : Int) v u W h1 h2 (by omega) (by omega) (by omega) (by omega) (by omega) (by omega) (by omega) (by omega) le1 le2 (by omega) (by omega) (HT.out W hW)
  simp only [fx4] at p4
  have P4 := Lib.hid p4
  clear p4 fx4
  have p5 := fun v u W h1 h2 (hW : Below w.heap.size w W) => asub_any m e n3 f3 m2 e2 n4 f4 (r3 : Int) v u W h1 h2 (by omega) (by omega) (by omega) (by omega) (by omega) (by omega) (by omega) (by omega) t3 t7 (by omega) (by omega) (HT.out W hW)
  simp only [fx5] at p5
  have P5 := Lib.hid p5
  clear p5 fx5
  have HT1 := Lib.hid x1
  have HT2 := Lib.hid x2
  have MO1 := Lib.hid o1
  have MO2 := Lib.hid o2
  clear x1 x2 o1 o2 i1 i2 i3 hM1 hE1 hN1 hG1 F1 U1 l1 k1 zm1 ze1 zn1 zg1 hM2 hE2 hN2 hG2 F2 U2 l2 k2 zm2 ze2 zn2 zg2 hM3 hE3 hN3 hG3 F3 U3 l3 k3 zm3 ze3 zn3 zg3 hM4 hE4 hN4 hG4 F4 U4 l4 k4 zm4 ze4 zn4 zg4 hM5 hE5 hN5 hG5 F5 U5 l5 k5 zm5 ze5 zn5 zg5
  clear s1 s2 s3 s4 s5 s6 s7 s8 y0 y1 y2 y3 ms c1 c2 c3 c4 t1 t2 t3 t4 t5 t6 t7 t8 hle3 br1 br2 br3 dv2 dv4 le1 le2 lm ln lm2 ln2 he hf he2 hf2
  have cel00 := L.b0.c60
  have cel01 := L.b0.c61
  have cel02 := L.b0.c62
  have cel03 := L.b0.c63
  have cel04 := L.b0.c64
  have cel05 := L.b0.c65
  have cel10 := L.tl.b0.c60
  have cel11 := L.tl.b0.c61
  have cel12 := L.tl.b0.c62
  have cel13 := L.tl.b0.c63
  have cel14 := L.tl.b0.c64
  have cel15 := L.tl.b0.c65
  go_wp2_with fail
  obtain ⟨g, hg⟩ : ∃ g, w2.heap.size = g := ⟨_, rfl⟩
  rw [hg] at L hlt0 cel00 cel01 cel02 cel03 cel04 cel05 cel10 cel11 cel12 cel13 cel14 cel15 ⊢
  clear hg
  refine (MO1.out _).mono ?_
  rintro e9 w' ⟨rfl, rfl⟩
  go_wp2_with fail
  refine (MO2.out _).mono ?_
  rintro e9 w' ⟨rfl, rfl⟩
  (try go_wp2_with fail)
  clear cel00 cel01 cel02 cel03 cel04 cel05 cel10 cel11 cel12 cel13 cel14 cel15
  obtain ⟨V, hV, L9⟩ := L.name
  rw [hV]
  clear hV L
  have L := L9
  clear L9
  have Q0 := Lib.hid (fun Z (hZ : Below V.heap.size V Z) => (L.tl.b0.mono hZ).c60)
  have Q1 := Lib.hid (fun Z (hZ : Below V.heap.size V Z) => (L.tl.b0.mono hZ).c61)
  have Q2 := Lib.hid (fun Z (hZ : Below V.heap.size V Z) => (L.tl.b0.mono hZ).c62)
  have Q3 := Lib.hid (fun Z (hZ : Below V.heap.size V Z) => (L.tl.b0.mono hZ).c63)
  have Q4 := Lib.hid (fun Z (hZ : Below V.heap.size V Z) => (L.tl.b0.mono hZ).c64)
  have Q5 := Lib.hid (fun Z (hZ : Below V.heap.size V Z) => (L.tl.b0.mono hZ).c65)
  have Q6 := Lib.hid (fun Z (hZ : Below V.heap.size V Z) => (L.b0.mono hZ).c60)
  have Q7 := Lib.hid (fun Z (hZ : Below V.heap.size V Z) => (L.b0.mono hZ).c61)
  have Q8 := Lib.hid (fun Z (hZ : Below V.heap.size V Z) => (L.b0.mono hZ).c62)
  have Q9 := Lib.hid (fun Z (hZ : Below V.heap.size V Z) => (L.b0.mono hZ).c63)
  have Q10 := Lib.hid (fun Z (hZ : Below V.heap.size V Z) => (L.b0.mono hZ).c64)
  have Q11 := Lib.hid (fun Z (hZ : Below V.heap.size V Z) => (L.b0.mono hZ).c65)
  have hb1 := L.tl.b0.lt
  have hb2 := L.b0.lt
  have D0 : Dq V V [(.slice A (zl m) c, m.natAbs), (.slice B (zl n) d, n.natAbs), (.slice A2 (zl m2) k2, m2.natAbs), (.slice B2 (zl n2) d2, n2.natAbs)] [] [] [] := ⟨((((Lq.mk0 V).n (L.getN (v := .slice B2 (zl n2) d2) (x := (n2).natAbs) (by simp))).n (L.getN (v := .slice A2 (zl m2) k2) (x := (m2).natAbs) (by simp))).n (L.getN (v := .slice B (zl n) d) (x := (n).natAbs) (by simp))).n (L.getN (v := .slice A (zl m) c) (x := (m).natAbs) (by simp)), List.nodup_nil, fun p hp => by cases hp⟩
  have D := D0.drew
  have LL := Lib.hid L
  clear L
  obtain ⟨K, hK⟩ : ∃ K, V.heap.size = K := ⟨_, rfl⟩
  have hz0 : K ≤ V.heap.size := by omega
  have hc1 : g < K := by omega
  have hc2 : g + 1 < K := by omega
  have hmd : V.drew.heap.size = K := hK
  go_cut [12, 13] from 41 to 45 (fun s5 s6 wx => Made2I V m e n3 f3 m2 e2 n4 f4 s5 s6 wx)
  case first =>
    go_region_held3 (fun w' => w'.cell? ⟨g, 0, none⟩ = some (.bool (ng m)) ∧ w'.cell? ⟨g, 1, none⟩ = some (.slice A (zl m) c) ∧ w'.cell? ⟨g, 2, none⟩ = some (.int .i64 e) ∧ w'.cell? ⟨g, 3, none⟩ = some (.bool (ng n)) ∧ w'.cell? ⟨g, 4, none⟩ = some (.slice B (zl n) d) ∧ w'.cell? ⟨g, 5, none⟩ = some (.int .i64 f) ∧ w'.cell? ⟨g + 1, 0, none⟩ = some (.bool (ng m2)) ∧ w'.cell? ⟨g + 1, 1, none⟩ = some (.slice A2 (zl m2) k2) ∧ w'.cell? ⟨g + 1, 2, none⟩ = some (.int .i64 e2) ∧ w'.cell? ⟨g + 1, 3, none⟩ = some (.bool (ng n2)) ∧ w'.cell? ⟨g + 1, 4, none⟩ = some (.slice B2 (zl n2) d2) ∧ w'.cell? ⟨g + 1, 5, none⟩ = some (.int .i64 f2)) (((try dsimp only); refine ⟨?_, ?_, ?_, ?_, ?_, ?_, ?_, ?_, ?_, ?_, ?_, ?_⟩ <;> (repeat (first | (with_reducible exact Q0.out _ D.lq.below) | (with_reducible exact Q0.out _ D0.lq.below) | (with_reducible exact Q1.out _ D.lq.below) | (with_reducible exact Q1.out _ D0.lq.below) | (with_reducible exact Q2.out _ D.lq.below) | (with_reducible exact Q2.out _ D0.lq.below) | (with_reducible exact Q3.out _ D.lq.below) | (with_reducible exact Q3.out _ D0.lq.below) | (with_reducible exact Q4.out _ D.lq.below) | (with_reducible exact Q4.out _ D0.lq.below) | (with_reducible exact Q5.out _ D.lq.below) | (with_reducible exact Q5.out _ D0.lq.below) | (with_reducible exact Q6.out _ D.lq.below) | (with_reducible exact Q6.out _ D0.lq.below) | (with_reducible exact Q7.out _ D.lq.below) | (with_reducible exact Q7.out _ D0.lq.below) | (with_reducible exact Q8.out _ D.lq.below) | (with_reducible exact Q8.out _ D0.lq.below) | (with_reducible exact Q9.out _ D.lq.below) | (with_reducible exact Q9.out _ D0.lq.below) | (with_reducible exact Q10.out _ D.lq.below) | (with_reducible exact Q10.out _ D0.lq.below) | (with_reducible exact Q11.out _ D.lq.below) | (with_reducible exact Q11.out _ D0.lq.below) | (with_reducible refine c_alloc _ ?_) | (with_reducible refine c_drew ?_) | (with_reducible refine c_set ?_ (by assumption) ?_) | omega)))) (first | (go_at_call 21; (with_reducible refine (HT1.out _ _ ?_).mono ?_); (· (first | (with_reducible refine isI_n (D.getN ?_) (D.getN ?_) <;> (repeat (first | (with_reducible exact List.mem_cons_self) | apply List.mem_cons_of_mem))) | (with_reducible refine isI_n ((D.boxI false none 0 0 0 false none 0 0 0).getN ?_) ((D.boxI false none 0 0 0 false none 0 0 0).getN ?_) <;> (repeat (first | (with_reducible exact List.mem_cons_self) | apply List.mem_cons_of_mem))) | (with_reducible refine isI_n ((D.boxI2 false none 0 0 0 false none 0 0 0 false none 0 0 0 false none 0 0 0).getN ?_) ((D.boxI2 false none 0 0 0 false none 0 0 0 false none 0 0 0 false none 0 0 0).getN ?_) <;> (repeat (first | (with_reducible exact List.mem_cons_self) | apply List.mem_cons_of_mem))) | (with_reducible refine isI_n ((D0.boxI false none 0 0 0 false none 0 0 0).drew.getN ?_) ((D0.boxI false none 0 0 0 false none 0 0 0).drew.getN ?_) <;> (repeat (first | (with_reducible exact List.mem_cons_self) | apply List.mem_cons_of_mem))) | (with_reducible refine isI_n ((D0.boxI2 false none 0 0 0 false none 0 0 0 false none 0 0 0 false none 0 0 0).drew.getN ?_) ((D0.boxI2 false none 0 0 0 false none 0 0 0 false none 0 0 0 false none 0 0 0).drew.getN ?_) <;> (repeat (first | (with_reducible exact List.mem_cons_self) | apply List.mem_cons_of_mem))))); rintro e9 wh ⟨vh, rfl, ii, be⟩; obtain ⟨A5, c5, B5, d5, rfl, ia, ib⟩ := ii.form; (first | (replace D := D.step be) | (replace D := (D.boxMI hmd false none 0 0 0 false none 0 0 0).step be) | (replace D := (D.boxMI2 hmd false none 0 0 0 false none 0 0 0 false none 0 0 0 false none 0 0 0).step be) | (replace D := (D.boxI false none 0 0 0 false none 0 0 0).step be) | (replace D := (D.boxI2 false none 0 0 0 false none 0 0 0 false none 0 0 0 false none 0 0 0).step be)); have hz := be.size; (try simp at hz); replace D := (D.n ib).n ia; clear ia ib ii; (try (have q000 := D.lq.b0.c60; have z000 := D.lq.b0.fr 0; have q001 := D.lq.b0.c61; have z001 := D.lq.b0.fr 1; have q002 := D.lq.b0.c62; have z002 := D.lq.b0.fr 2; have q003 := D.lq.b0.c63; have z003 := D.lq.b0.fr 3; have q004 := D.lq.b0.c64; have z004 := D.lq.b0.fr 4; have q005 := D.lq.b0.c65; have z005 := D.lq.b0.fr 5)); (try (have q010 := (D.alloc (.cells #[.bool false, .slice none 0 0, .int .i64 0, .bool false, .slice none 0 0, .int .i64 0] 28)).lq.b0.c60; have z010 := (D.alloc (.cells #[.bool false, .slice none 0 0, .int .i64 0, .bool false, .slice none 0 0, .int .i64 0] 28)).lq.b0.fr 0; have q011 := (D.alloc (.cells #[.bool false, .slice none 0 0, .int .i64 0, .bool false, .slice none 0 0, .int .i64 0] 28)).lq.b0.c61; have z011 := (D.alloc (.cells #[.bool false, .slice none 0 0, .int .i64 0, .bool false, .slice none 0 0, .int .i64 0] 28)).lq.b0.fr 1; have q012 := (D.alloc (.cells #[.bool false, .slice none 0 0, .int .i64 0, .bool false, .slice none 0 0, .int .i64 0] 28)).lq.b0.c62; have z012 := (D.alloc (.cells #[.bool false, .slice none 0 0, .int .i64 0, .bool false, .slice none 0 0, .int .i64 0] 28)).lq.b0.fr 2; have q013 := (D.alloc (.cells #[.bool false, .slice none 0 0, .int .i64 0, .bool false, .slice none 0 0, .int .i64 0] 28)).lq.b0.c63; have z013 := (D.alloc (.cells #[.bool false, .slice none 0 0, .int .i64 0, .bool false, .slice none 0 0, .int .i64 0] 28)).lq.b0.fr 3; have q014 := (D.alloc (.cells #[.bool false, .slice none 0 0, .int .i64 0, .bool false, .slice none 0 0, .int .i64 0] 28)).lq.b0.c64; have z014 := (D.alloc (.cells #[.bool false, .slice none 0 0, .int .i64 0, .bool false, .slice none 0 0, .int .i64 0] 28)).lq.b0.fr 4; have q015 := (D.alloc (.cells #[.bool false, .slice none 0 0, .int .i64 0, .bool false, .slice none 0 0, .int .i64 0] 28)).lq.b0.c65; have z015 := (D.alloc (.cells #[.bool false, .slice none 0 0, .int .i64 0, .bool false, .slice none 0 0, .int .i64 0] 28)).lq.b0.fr 5)); (try (have q020 := ((D.alloc (.cells #[.bool false, .slice none 0 0, .int .i64 0, .bool false, .slice none 0 0, .int .i64 0] 28)).alloc (.cells #[.bool false, .slice none 0 0, .int .i64 0, .bool false, .slice none 0 0, .int .i64 0] 28)).lq.b0.c60; have z020 := ((D.alloc (.cells #[.bool false, .slice none 0 0, .int .i64 0, .bool false, .slice none 0 0, .int .i64 0] 28)).alloc (.cells #[.bool false, .slice none 0 0, .int .i64 0, .bool false, .slice none 0 0, .int .i64 0] 28)).lq.b0.fr 0; have q021 := ((D.alloc (.cells #[.bool false, .slice none 0 0, .int .i64 0, .bool false, .slice none 0 0, .int .i64 0] 28)).alloc (.cells #[.bool false, .slice none 0 0, .int .i64 0, .bool false, .slice none 0 0, .int .i64 0] 28)).lq.b0.c61; have z021 := ((D.alloc (.cells #[.bool false, .slice none 0 0, .int .i64 0, .bool false, .slice none 0 0, .int .i64 0] 28)).alloc (.cells #[.bool false, .slice none 0 0, .int .i64 0, .bool false, .slice none 0 0, .int .i64 0] 28)).lq.b0.fr 1; have q022 := ((D.alloc (.cells #[.bool false, .slice none 0 0, .int .i64 0, .bool false, .slice none 0 0, .int .i64 0] 28)).alloc (.cells #[.bool false, .slice none 0 0, .int .i64 0, .bool false, .slice none 0 0, .int .i64 0] 28)).lq.b0.c62; have z022 := ((D.alloc (.cells #[.bool false, .slice none 0 0, .int .i64 0, .bool false, .slice none 0 0, .int .i64 0] 28)).alloc (.cells #[.bool false, .slice none 0 0, .int .i64 0, .bool false, .slice none 0 0, .int .i64 0] 28)).lq.b0.fr 2; have q023 := ((D.alloc (.cells #[.bool false, .slice none 0 0, .int .i64 0, .bool false, .slice none 0 0, .int .i64 0] 28)).alloc (.cells #[.bool false, .slice none 0 0, .int .i64 0, .bool false, .slice none 0 0, .int .i64 0] 28)).lq.b0.c63; have z023 := ((D.alloc (.cells #[.bool false, .slice none 0 0, .int .i64 0, .bool false, .slice none 0 0, .int .i64 0] 28)).alloc (.cells #[.bool false, .slice none 0 0, .int .i64 0, .bool false, .slice none 0 0, .int .i64 0] 28)).lq.b0.fr 3; have q024 := ((D.alloc (.cells #[.bool false, .slice none 0 0, .int .i64 0, .bool false, .slice none 0 0, .int .i64 0] 28)).alloc (.cells #[.bool false, .slice none 0 0, .int .i64 0, .bool false, .slice none 0 0, .int .i64 0] 28)).lq.b0.c64; have z024 := ((D.alloc (.cells #[.bool false, .slice none 0 0, .int .i64 0, .bool false, .slice none 0 0, .int .i64 0] 28)).alloc (.cells #[.bool false, .slice none 0 0, .int .i64 0, .bool false, .slice none 0 0, .int .i64 0] 28)).lq.b0.fr 4; have q025 := ((D.alloc (.cells #[.bool false, .slice none 0 0, .int .i64 0, .bool false, .slice none 0 0, .int .i64 0] 28)).alloc (.cells #[.bool false, .slice none 0 0, .int .i64 0, .bool false, .slice none 0 0, .int .i64 0] 28)).lq.b0.c65; have z025 := ((D.alloc (.cells #[.bool false, .slice none 0 0, .int .i64 0, .bool false, .slice none 0 0, .int .i64 0] 28)).alloc (.cells #[.bool false, .slice none 0 0, .int .i64 0, .bool false, .slice none 0 0, .int .i64 0] 28)).lq.b0.fr 5)); (try (have q100 := D.lq.tl.b0.c60; have z100 := D.lq.tl.b0.fr 0; have q101 := D.lq.tl.b0.c61; have z101 := D.lq.tl.b0.fr 1; have q102 := D.lq.tl.b0.c62; have z102 := D.lq.tl.b0.fr 2; have q103 := D.lq.tl.b0.c63; have z103 := D.lq.tl.b0.fr 3; have q104 := D.lq.tl.b0.c64; have z104 := D.lq.tl.b0.fr 4; have q105 := D.lq.tl.b0.c65; have z105 := D.lq.tl.b0.fr 5)); (try (have q110 := (D.alloc (.cells #[.bool false, .slice none 0 0, .int .i64 0, .bool false, .slice none 0 0, .int .i64 0] 28)).lq.tl.b0.c60; have z110 := (D.alloc (.cells #[.bool false, .slice none 0 0, .int .i64 0, .bool false, .slice none 0 0, .int .i64 0] 28)).lq.tl.b0.fr 0; have q111 := (D.alloc (.cells #[.bool false, .slice none 0 0, .int .i64 0, .bool false, .slice none 0 0, .int .i64 0] 28)).lq.tl.b0.c61; have z111 := (D.alloc (.cells #[.bool false, .slice none 0 0, .int .i64 0, .bool false, .slice none 0 0, .int .i64 0] 28)).lq.tl.b0.fr 1; have q112 := (D.alloc (.cells #[.bool false, .slice none 0 0, .int .i64 0, .bool false, .slice none 0 0, .int .i64 0] 28)).lq.tl.b0.c62; have z112 := (D.alloc (.cells #[.bool false, .slice none 0 0, .int .i64 0, .bool false, .slice none 0 0, .int .i64 0] 28)).lq.tl.b0.fr 2; have q113 := (D.alloc (.cells #[.bool false, .slice none 0 0, .int .i64 0, .bool false, .slice none 0 0, .int .i64 0] 28)).lq.tl.b0.c63; have z113 := (D.alloc (.cells #[.bool false, .slice none 0 0, .int .i64 0, .bool false, .slice none 0 0, .int .i64 0] 28)).lq.tl.b0.fr 3; have q114 := (D.alloc (.cells #[.bool false, .slice none 0 0, .int .i64 0, .bool false, .slice none 0 0, .int .i64 0] 28)).lq.tl.b0.c64; have z114 := (D.alloc (.cells #[.bool false, .slice none 0 0, .int .i64 0, .bool false, .slice none 0 0, .int .i64 0] 28)).lq.tl.b0.fr 4; have q115 := (D.alloc (.cells #[.bool false, .slice none 0 0, .int .i64 0, .bool false, .slice none 0 0, .int .i64 0] 28)).lq.tl.b0.c65; have z115 := (D.alloc (.cells #[.bool false, .slice none 0 0, .int .i64 0, .bool false, .slice none 0 0, .int .i64 0] 28)).lq.tl.b0.fr 5)); (try (have q120 := ((D.alloc (.cells #[.bool false, .slice none 0 0, .int .i64 0, .bool false, .slice none 0 0, .int .i64 0] 28)).alloc (.cells #[.bool false, .slice none 0 0, .int .i64 0, .bool false, .slice none 0 0, .int .i64 0] 28)).lq.tl.b0.c60; have z120 := ((D.alloc (.cells #[.bool false, .slice none 0 0, .int .i64 0, .bool false, .slice none 0 0, .int .i64 0] 28)).alloc (.cells #[.bool false, .slice none 0 0, .int .i64 0, .bool false, .slice none 0 0, .int .i64 0] 28)).lq.tl.b0.fr 0; have q121 := ((D.alloc (.cells #[.bool false, .slice none 0 0, .int .i64 0, .bool false, .slice none 0 0, .int .i64 0] 28)).alloc (.cells #[.bool false, .slice none 0 0, .int .i64 0, .bool false, .slice none 0 0, .int .i64 0] 28)).lq.tl.b0.c61; have z121 := ((D.alloc (.cells #[.bool false, .slice none 0 0, .int .i64 0, .bool false, .slice none 0 0, .int .i64 0] 28)).alloc (.cells #[.bool false, .slice none 0 0, .int .i64 0, .bool false, .slice none 0 0, .int .i64 0] 28)).lq.tl.b0.fr 1; have q122 := ((D.alloc (.cells #[.bool false, .slice none 0 0, .int .i64 0, .bool false, .slice none 0 0, .int .i64 0] 28)).alloc (.cells #[.bool false, .slice none 0 0, .int .i64 0, .bool false, .slice none 0 0, .int .i64 0] 28)).lq.tl.b0.c62; have z122 := ((D.alloc (.cells #[.bool false, .slice none 0 0, .int .i64 0, .bool false, .slice none 0 0, .int .i64 0] 28)).alloc (.cells #[.bool false, .slice none 0 0, .int .i64 0, .bool false, .slice none 0 0, .int .i64 0] 28)).lq.tl.b0.fr 2; have q123 := ((D.alloc (.cells #[.bool false, .slice none 0 0, .int .i64 0, .bool false, .slice none 0 0, .int .i64 0] 28)).alloc (.cells #[.bool false, .slice none 0 0, .int .i64 0, .bool false, .slice none 0 0, .int .i64 0] 28)).lq.tl.b0.c63; have z123 := ((D.alloc (.cells #[.bool false, .slice none 0 0, .int .i64 0, .bool false, .slice none 0 0, .int .i64 0] 28)).alloc (.cells #[.bool false, .slice none 0 0, .int .i64 0, .bool false, .slice none 0 0, .int .i64 0] 28)).lq.tl.b0.fr 3; have q124 := ((D.alloc (.cells #[.bool false, .slice none 0 0, .int .i64 0, .bool false, .slice none 0 0, .int .i64 0] 28)).alloc (.cells #[.bool false, .slice none 0 0, .int .i64 0, .bool false, .slice none 0 0, .int .i64 0] 28)).lq.tl.b0.c64; have z124 := ((D.alloc (.cells #[.bool false, .slice none 0 0, .int .i64 0, .bool false, .slice none 0 0, .int .i64 0] 28)).alloc (.cells #[.bool false, .slice none 0 0, .int .i64 0, .bool false, .slice none 0 0, .int .i64 0] 28)).lq.tl.b0.fr 4; have q125 := ((D.alloc (.cells #[.bool false, .slice none 0 0, .int .i64 0, .bool false, .slice none 0 0, .int .i64 0] 28)).alloc (.cells #[.bool false, .slice none 0 0, .int .i64 0, .bool false, .slice none 0 0, .int .i64 0] 28)).lq.tl.b0.c65; have z125 := ((D.alloc (.cells #[.bool false, .slice none 0 0, .int .i64 0, .bool false, .slice none 0 0, .int .i64 0] 28)).alloc (.cells #[.bool false, .slice none 0 0, .int .i64 0, .bool false, .slice none 0 0, .int .i64 0] 28)).lq.tl.b0.fr 5)); (try obtain ⟨na, nb, nc, nd, nl⟩ := D.n0); (try obtain ⟨ne, nf, ng', nh, nm⟩ := D.n1); (try obtain ⟨ni, nj⟩ := D.n01)) | (go_at_call 21; (with_reducible refine (HT2.out _ _ ?_).mono ?_); (· (first | (with_reducible refine isI_n (D.getN ?_) (D.getN ?_) <;> (repeat (first | (with_reducible exact List.mem_cons_self) | apply List.mem_cons_of_mem))) | (with_reducible refine isI_n ((D.boxI false none 0 0 0 false none 0 0 0).getN ?_) ((D.boxI false none 0 0 0 false none 0 0 0).getN ?_) <;> (repeat (first | (with_reducible exact List.mem_cons_self) | apply List.mem_cons_of_mem))) | (with_reducible refine isI_n ((D.boxI2 false none 0 0 0 false none 0 0 0 false none 0 0 0 false none 0 0 0).getN ?_) ((D.boxI2 false none 0 0 0 false none 0 0 0 false none 0 0 0 false none 0 0 0).getN ?_) <;> (repeat (first | (with_reducible exact List.mem_cons_self) | apply List.mem_cons_of_mem))) | (with_reducible refine isI_n ((D0.boxI false none 0 0 0 false none 0 0 0).drew.getN ?_) ((D0.boxI false none 0 0 0 false none 0 0 0).drew.getN ?_) <;> (repeat (first | (with_reducible exact List.mem_cons_self) | apply List.mem_cons_of_mem))) | (with_reducible refine isI_n ((D0.boxI2 false none 0 0 0 false none 0 0 0 false none 0 0 0 false none 0 0 0).drew.getN ?_) ((D0.boxI2 false none 0 0 0 false none 0 0 0 false none 0 0 0 false none 0 0 0).drew.getN ?_) <;> (repeat (first | (with_reducible exact List.mem_cons_self) | apply List.mem_cons_of_mem))))); rintro e9 wh ⟨vh, rfl, ii, be⟩; obtain ⟨A6, c6, B6, d6, rfl, ia, ib⟩ := ii.form; (first | (replace D := D.step be) | (replace D := (D.boxMI hmd false none 0 0 0 false none 0 0 0).step be) | (replace D := (D.boxMI2 hmd false none 0 0 0 false none 0 0 0 false none 0 0 0 false none 0 0 0).step be) | (replace D := (D.boxI false none 0 0 0 false none 0 0 0).step be) | (replace D := (D.boxI2 false none 0 0 0 false none 0 0 0 false none 0 0 0 false none 0 0 0).step be)); have hz := be.size; (try simp at hz); replace D := (D.n ib).n ia; clear ia ib ii; (try (have q000 := D.lq.b0.c60; have z000 := D.lq.b0.fr 0; have q001 := D.lq.b0.c61; have z001 := D.lq.b0.fr 1; have q002 := D.lq.b0.c62; have z002 := D.lq.b0.fr 2; have q003 := D.lq.b0.c63; have z003 := D.lq.b0.fr 3; have q004 := D.lq.b0.c64; have z004 := D.lq.b0.fr 4; have q005 := D.lq.b0.c65; have z005 := D.lq.b0.fr 5)); (try (have q010 := (D.alloc (.cells #[.bool false, .slice none 0 0, .int .i64 0, .bool false, .slice none 0 0, .int .i64 0] 28)).lq.b0.c60; have z010 := (D.alloc (.cells #[.bool false, .slice none 0 0, .int .i64 0, .bool false, .slice none 0 0, .int .i64 0] 28)).lq.b0.fr 0; have q011 := (D.alloc (.cells #[.bool false, .slice none 0 0, .int .i64 0, .bool false, .slice none 0 0, .int .i64 0] 28)).lq.b0.c61; have z011 := (D.alloc (.cells #[.bool false, .slice none 0 0, .int .i64 0, .bool false, .slice none 0 0, .int .i64 0] 28)).lq.b0.fr 1; have q012 := (D.alloc (.cells #[.bool false, .slice none 0 0, .int .i64 0, .bool false, .slice none 0 0, .int .i64 0] 28)).lq.b0.c62; have z012 := (D.alloc (.cells #[.bool false, .slice none 0 0, .int .i64 0, .bool false, .slice none 0 0, .int .i64 0] 28)).lq.b0.fr 2; have q013 := (D.alloc (.cells #[.bool false, .slice none 0 0, .int .i64 0, .bool false, .slice none 0 0, .int .i64 0] 28)).lq.b0.c63; have z013 := (D.alloc (.cells #[.bool false, .slice none 0 0, .int .i64 0, .bool false, .slice none 0 0, .int .i64 0] 28)).lq.b0.fr 3; have q014 := (D.alloc (.cells #[.bool false, .slice none 0 0, .int .i64 0, .bool false, .slice none 0 0, .int .i64 0] 28)).lq.b0.c64; have z014 := (D.alloc (.cells #[.bool false, .slice none 0 0, .int .i64 0, .bool false, .slice none 0 0, .int .i64 0] 28)).lq.b0.fr 4; have q015 := (D.alloc (.cells #[.bool false, .slice none 0 0, .int .i64 0, .bool false, .slice none 0 0, .int .i64 0] 28)).lq.b0.c65; have z015 := (D.alloc (.cells #[.bool false, .slice none 0 0, .int .i64 0, .bool false, .slice none 0 0, .int .i64 0] 28)).lq.b0.fr 5)); (try (have q020 := ((D.alloc (.cells #[.bool false, .slice none 0 0, .int .i64 0, .bool false, .slice none 0 0, .int .i64 0] 28)).alloc (.cells #[.bool false, .slice none 0 0, .int .i64 0, .bool false, .slice none 0 0, .int .i64 0] 28)).lq.b0.c60; have z020 := ((D.alloc (.cells #[.bool false, .slice none 0 0, .int .i64 0, .bool false, .slice none 0 0, .int .i64 0] 28)).alloc (.cells #[.bool false, .slice none 0 0, .int .i64 0, .bool false, .slice none 0 0, .int .i64 0] 28)).lq.b0.fr 0; have q021 := ((D.alloc (.cells #[.bool false, .slice none 0 0, .int .i64 0, .bool false, .slice none 0 0, .int .i64 0] 28)).alloc (.cells #[.bool false, .slice none 0 0, .int .i64 0, .bool false, .slice none 0 0, .int .i64 0] 28)).lq.b0.c61; have z021 := ((D.alloc (.cells #[.bool false, .slice none 0 0, .int .i64 0, .bool false, .slice none 0 0, .int .i64 0] 28)).alloc (.cells #[.bool false, .slice none 0 0, .int .i64 0, .bool false, .slice none 0 0, .int .i64 0] 28)).lq.b0.fr 1; have q022 := ((D.alloc (.cells #[.bool false, .slice none 0 0, .int .i64 0, .bool false, .slice none 0 0, .int .i64 0] 28)).alloc (.cells #[.bool false, .slice none 0 0, .int .i64 0, .bool false, .slice none 0 0, .int .i64 0] 28)).lq.b0.c62; have z022 := ((D.alloc (.cells #[.bool false, .slice none 0 0, .int .i64 0, .bool false, .slice none 0 0, .int .i64 0] 28)).alloc (.cells #[.bool false, .slice none 0 0, .int .i64 0, .bool false, .slice none 0 0, .int .i64 0] 28)).lq.b0.fr 2; have q023 := ((D.alloc (.cells #[.bool false, .slice none 0 0, .int .i64 0, .bool false, .slice none 0 0, .int .i64 0] 28)).alloc (.cells #[.bool false, .slice none 0 0, .int .i64 0, .bool false, .slice none 0 0, .int .i64 0] 28)).lq.b0.c63; have z023 := ((D.alloc (.cells #[.bool false, .slice none 0 0, .int .i64 0, .bool false, .slice none 0 0, .int .i64 0] 28)).alloc (.cells #[.bool false, .slice none 0 0, .int .i64 0, .bool false, .slice none 0 0, .int .i64 0] 28)).lq.b0.fr 3; have q024 := ((D.alloc (.cells #[.bool false, .slice none 0 0, .int .i64 0, .bool false, .slice none 0 0, .int .i64 0] 28)).alloc (.cells #[.bool false, .slice none 0 0, .int .i64 0, .bool false, .slice none 0 0, .int .i64 0] 28)).lq.b0.c64; have z024 := ((D.alloc (.cells #[.bool false, .slice none 0 0, .int .i64 0, .bool false, .slice none 0 0, .int .i64 0] 28)).alloc (.cells #[.bool false, .slice none 0 0, .int .i64 0, .bool false, .slice none 0 0, .int .i64 0] 28)).lq.b0.fr 4; have q025 := ((D.alloc (.cells #[.bool false, .slice none 0 0, .int .i64 0, .bool false, .slice none 0 0, .int .i64 0] 28)).alloc (.cells #[.bool false, .slice none 0 0, .int .i64 0, .bool false, .slice none 0 0, .int .i64 0] 28)).lq.b0.c65; have z025 := ((D.alloc (.cells #[.bool false, .slice none 0 0, .int .i64 0, .bool false, .slice none 0 0, .int .i64 0] 28)).alloc (.cells #[.bool false, .slice none 0 0, .int .i64 0, .bool false, .slice none 0 0, .int .i64 0] 28)).lq.b0.fr 5)); (try (have q100 := D.lq.tl.b0.c60; have z100 := D.lq.tl.b0.fr 0; have q101 := D.lq.tl.b0.c61; have z101 := D.lq.tl.b0.fr 1; have q102 := D.lq.tl.b0.c62; have z102 := D.lq.tl.b0.fr 2; have q103 := D.lq.tl.b0.c63; have z103 := D.lq.tl.b0.fr 3; have q104 := D.lq.tl.b0.c64; have z104 := D.lq.tl.b0.fr 4; have q105 := D.lq.tl.b0.c65; have z105 := D.lq.tl.b0.fr 5)); (try (have q110 := (D.alloc (.cells #[.bool false, .slice none 0 0, .int .i64 0, .bool false, .slice none 0 0, .int .i64 0] 28)).lq.tl.b0.c60; have z110 := (D.alloc (.cells #[.bool false, .slice none 0 0, .int .i64 0, .bool false, .slice none 0 0, .int .i64 0] 28)).lq.tl.b0.fr 0; have q111 := (D.alloc (.cells #[.bool false, .slice none 0 0, .int .i64 0, .bool false, .slice none 0 0, .int .i64 0] 28)).lq.tl.b0.c61; have z111 := (D.alloc (.cells #[.bool false, .slice none 0 0, .int .i64 0, .bool false, .slice none 0 0, .int .i64 0] 28)).lq.tl.b0.fr 1; have q112 := (D.alloc (.cells #[.bool false, .slice none 0 0, .int .i64 0, .bool false, .slice none 0 0, .int .i64 0] 28)).lq.tl.b0.c62; have z112 := (D.alloc (.cells #[.bool false, .slice none 0 0, .int .i64 0, .bool false, .slice none 0 0, .int .i64 0] 28)).lq.tl.b0.fr 2; have q113 := (D.alloc (.cells #[.bool false, .slice none 0 0, .int .i64 0, .bool false, .slice none 0 0, .int .i64 0] 28)).lq.tl.b0.c63; have z113 := (D.alloc (.cells #[.bool false, .slice none 0 0, .int .i64 0, .bool false, .slice none 0 0, .int .i64 0] 28)).lq.tl.b0.fr 3; have q114 := (D.alloc (.cells #[.bool false, .slice none 0 0, .int .i64 0, .bool false, .slice none 0 0, .int .i64 0] 28)).lq.tl.b0.c64; have z114 := (D.alloc (.cells #[.bool false, .slice none 0 0, .int .i64 0, .bool false, .slice none 0 0, .int .i64 0] 28)).lq.tl.b0.fr 4; have q115 := (D.alloc (.cells #[.bool false, .slice none 0 0, .int .i64 0, .bool false, .slice none 0 0, .int .i64 0] 28)).lq.tl.b0.c65; have z115 := (D.alloc (.cells #[.bool false, .slice none 0 0, .int .i64 0, .bool false, .slice none 0 0, .int .i64 0] 28)).lq.tl.b0.fr 5)); (try (have q120 := ((D.alloc (.cells #[.bool false, .slice none 0 0, .int .i64 0, .bool false, .slice none 0 0, .int .i64 0] 28)).alloc (.cells #[.bool false, .slice none 0 0, .int .i64 0, .bool false, .slice none 0 0, .int .i64 0] 28)).lq.tl.b0.c60; have z120 := ((D.alloc (.cells #[.bool false, .slice none 0 0, .int .i64 0, .bool false, .slice none 0 0, .int .i64 0] 28)).alloc (.cells #[.bool false, .slice none 0 0, .int .i64 0, .bool false, .slice none 0 0, .int .i64 0] 28)).lq.tl.b0.fr 0; have q121 := ((D.alloc (.cells #[.bool false, .slice none 0 0, .int .i64 0, .bool false, .slice none 0 0, .int .i64 0] 28)).alloc (.cells #[.bool false, .slice none 0 0, .int .i64 0, .bool false, .slice none 0 0, .int .i64 0] 28)).lq.tl.b0.c61; have z121 := ((D.alloc (.cells #[.bool false, .slice none 0 0, .int .i64 0, .bool false, .slice none 0 0, .int .i64 0] 28)).alloc (.cells #[.bool false, .slice none 0 0, .int .i64 0, .bool false, .slice none 0 0, .int .i64 0] 28)).lq.tl.b0.fr 1; have q122 := ((D.alloc (.cells #[.bool false, .slice none 0 0, .int .i64 0, .bool false, .slice none 0 0, .int .i64 0] 28)).alloc (.cells #[.bool false, .slice none 0 0, .int .i64 0, .bool false, .slice none 0 0, .int .i64 0] 28)).lq.tl.b0.c62; have z122 := ((D.alloc (.cells #[.bool false, .slice none 0 0, .int .i64 0, .bool false, .slice none 0 0, .int .i64 0] 28)).alloc (.cells #[.bool false, .slice none 0 0, .int .i64 0, .bool false, .slice none 0 0, .int .i64 0] 28)).lq.tl.b0.fr 2; have q123 := ((D.alloc (.cells #[.bool false, .slice none 0 0, .int .i64 0, .bool false, .slice none 0 0, .int .i64 0] 28)).alloc (.cells #[.bool false, .slice none 0 0, .int .i64 0, .bool false, .slice none 0 0, .int .i64 0] 28)).lq.tl.b0.c63; have z123 := ((D.alloc (.cells #[.bool false, .slice none 0 0, .int .i64 0, .bool false, .slice none 0 0, .int .i64 0] 28)).alloc (.cells #[.bool false, .slice none 0 0, .int .i64 0, .bool false, .slice none 0 0, .int .i64 0] 28)).lq.tl.b0.fr 3; have q124 := ((D.alloc (.cells #[.bool false, .slice none 0 0, .int .i64 0, .bool false, .slice none 0 0, .int .i64 0] 28)).alloc (.cells #[.bool false, .slice none 0 0, .int .i64 0, .bool false, .slice none 0 0, .int .i64 0] 28)).lq.tl.b0.c64; have z124 := ((D.alloc (.cells #[.bool false, .slice none 0 0, .int .i64 0, .bool false, .slice none 0 0, .int .i64 0] 28)).alloc (.cells #[.bool false, .slice none 0 0, .int .i64 0, .bool false, .slice none 0 0, .int .i64 0] 28)).lq.tl.b0.fr 4; have q125 := ((D.alloc (.cells #[.bool false, .slice none 0 0, .int .i64 0, .bool false, .slice none 0 0, .int .i64 0] 28)).alloc (.cells #[.bool false, .slice none 0 0, .int .i64 0, .bool false, .slice none 0 0, .int .i64 0] 28)).lq.tl.b0.c65; have z125 := ((D.alloc (.cells #[.bool false, .slice none 0 0, .int .i64 0, .bool false, .slice none 0 0, .int .i64 0] 28)).alloc (.cells #[.bool false, .slice none 0 0, .int .i64 0, .bool false, .slice none 0 0, .int .i64 0] 28)).lq.tl.b0.fr 5)); (try obtain ⟨na, nb, nc, nd, nl⟩ := D.n0); (try obtain ⟨ne, nf, ng', nh, nm⟩ := D.n1); (try obtain ⟨ni, nj⟩ := D.n01)))
    all_goals
      go_wp2_with fail
      go_meet
      first
      | ((with_reducible refine made2i_a D ?_ ?_ ?_ ?_) <;> (repeat (first | (with_reducible exact List.mem_cons_self) | apply List.mem_cons_of_mem)))
      | ((with_reducible refine made2i_b D ?_ ?_ ?_ ?_) <;> (repeat (first | (with_reducible exact List.mem_cons_self) | apply List.mem_cons_of_mem)))
      | ((with_reducible refine made2i_c D ?_ ?_ ?_ ?_) <;> (repeat (first | (with_reducible exact List.mem_cons_self) | apply List.mem_cons_of_mem)))
      | ((with_reducible refine made2i_d D ?_ ?_ ?_ ?_) <;> (repeat (first | (with_reducible exact List.mem_cons_self) | apply List.mem_cons_of_mem)))
      | ((with_reducible refine made2i_e D ?_ ?_ ?_ ?_) <;> (repeat (first | (with_reducible exact List.mem_cons_self) | apply List.mem_cons_of_mem)))
      | ((with_reducible refine made2i_f D ?_ ?_ ?_ ?_) <;> (repeat (first | (with_reducible exact List.mem_cons_self) | apply List.mem_cons_of_mem)))
  case rest =>
    obtain ⟨gu, gt, A5, c5, B5, d5, A6, c6, B6, d6, rfl, rfl, hg1, hg2, hg12, bw, hv1, hv2, iq1, iq2, iq3, iq4⟩ := hcut
    have hgr1 : g + 1 < gu := by omega
    have hgr2 : g + 1 < gt := by omega
    have L := ((((((LL.out.step bw).n iq4).n iq3).n iq2).n iq1).b hv2).b hv1
    clear D D0 hmd hz0 hK LL hv1 hv2 iq1 iq2 iq3 iq4 bw hb1 hb2 hc1 hc2 hg1 hg2 Q0 Q1 Q2 Q3 Q4 Q5 Q6 Q7 Q8 Q9 Q10 Q11
    generalize wc = wd at *
    have cel20 := L.tl.tl.b0.c60
    have cel21 := L.tl.tl.b0.c61
    have cel22 := L.tl.tl.b0.c62
    have cel23 := L.tl.tl.b0.c63
    have cel24 := L.tl.tl.b0.c64
    have cel25 := L.tl.tl.b0.c65
    have cel30 := L.tl.tl.tl.b0.c60
    have cel31 := L.tl.tl.tl.b0.c61
    have cel32 := L.tl.tl.tl.b0.c62
    have cel33 := L.tl.tl.tl.b0.c63
    have cel34 := L.tl.tl.tl.b0.c64
    have cel35 := L.tl.tl.tl.b0.c65
    go_wp2_with fail
    refine (P1.out _ _ _ (isI_n (m := m) (e := e) (n := n) (f := f) (s := .slice A (zl m) c) (t := .slice B (zl n) d) (L.getN (by simp)) (L.getN (by simp))) (isI_n (m := m2) (e := e2) (n := n2) (f := f2) (s := .slice A2 (zl m2) k2) (t := .slice B2 (zl n2) d2) (L.getN (by simp)) (L.getN (by simp))) L.below).mono ?_
    rintro e w3 ⟨vv, rfl, ii, be⟩
    clear cel20 cel21 cel22 cel23 cel24 cel25 cel30 cel31 cel32 cel33 cel34 cel35
    obtain ⟨A11, c11, B11, d11, rfl, ia, ib⟩ := ii.form
    replace L := ((L.step be).n ib).n ia
    clear be ii ia ib
    have hlgv10 := L.b0.lt
    have hlgv11 := L.tl.b0.lt
    have hlgv12 := L.tl.tl.b0.lt
    replace L := L.varI w3.heap.size rfl (ng M1) A11 (zl M1) c11 E1 (ng N1) B11 (zl N1) d11 G1
    have cel10 := L.tl.b0.c60
    have cel11 := L.tl.b0.c61
    have cel12 := L.tl.b0.c62
    have cel13 := L.tl.b0.c63
    have cel14 := L.tl.b0.c64
    have cel15 := L.tl.b0.c65
    have cel20 := L.tl.tl.b0.c60
    have cel21 := L.tl.tl.b0.c61
    have cel22 := L.tl.tl.b0.c62
    have cel23 := L.tl.tl.b0.c63
    have cel24 := L.tl.tl.b0.c64
    have cel25 := L.tl.tl.b0.c65
    go_wp2_with fail
    obtain ⟨gv1, hg⟩ : ∃ g, w3.heap.size = g := ⟨_, rfl⟩
    rw [hg] at L hlgv10 hlgv11 hlgv12 ⊢
    clear hg
    refine (P2.out _ _ _ (isI_n (m := m) (e := e) (n := n3) (f := f3) (s := .slice A5 (zl m) c5) (t := .slice B5 (zl n3) d5) (L.getN (by simp)) (L.getN (by simp))) (isI_n (m := m2) (e := e2) (n := n4) (f := f4) (s := .slice A6 (zl m2) c6) (t := .slice B6 (zl n4) d6) (L.getN (by simp)) (L.getN (by simp))) L.below).mono ?_
    rintro e w4 ⟨vv, rfl, ii, be⟩
    clear cel10 cel11 cel12 cel13 cel14 cel15 cel20 cel21 cel22 cel23 cel24 cel25
    obtain ⟨A12, c12, B12, d12, rfl, ia, ib⟩ := ii.form
    replace L := ((L.step be).n ib).n ia
    clear be ii ia ib
    have hlgv20 := L.b0.lt
    replace L := L.varI w4.heap.size rfl (ng M2) A12 (zl M2) c12 E2 (ng N2) B12 (zl N2) d12 G2
    have cel40 := L.tl.tl.tl.tl.b0.c60
    have cel41 := L.tl.tl.tl.tl.b0.c61
    have cel42 := L.tl.tl.tl.tl.b0.c62
    have cel43 := L.tl.tl.tl.tl.b0.c63
    have cel44 := L.tl.tl.tl.tl.b0.c64
    have cel45 := L.tl.tl.tl.tl.b0.c65
    have cel50 := L.tl.tl.tl.tl.tl.b0.c60
    have cel51 := L.tl.tl.tl.tl.tl.b0.c61
    have cel52 := L.tl.tl.tl.tl.tl.b0.c62
    have cel53 := L.tl.tl.tl.tl.tl.b0.c63
    have cel54 := L.tl.tl.tl.tl.tl.b0.c64
    have cel55 := L.tl.tl.tl.tl.tl.b0.c65
    go_wp2_with fail
    obtain ⟨gv2, hg⟩ : ∃ g, w4.heap.size = g := ⟨_, rfl⟩
    rw [hg] at L hlgv20 ⊢
    clear hg
    refine (P3.out _ _ _ (isI_n (m := m) (e := e) (n := n) (f := f) (s := .slice A (zl m) c) (t := .slice B (zl n) d) (L.getN (by simp)) (L.getN (by simp))) (isI_n (m := m2) (e := e2) (n := n2) (f := f2) (s := .slice A2 (zl m2) k2) (t := .slice B2 (zl n2) d2) (L.getN (by simp)) (L.getN (by simp))) L.below).mono ?_
    rintro e w5 ⟨vv, rfl, ii, be⟩
    clear cel40 cel41 cel42 cel43 cel44 cel45 cel50 cel51 cel52 cel53 cel54 cel55
    obtain ⟨A13, c13, B13, d13, rfl, ia, ib⟩ := ii.form
    replace L := ((L.step be).n ib).n ia
    clear be ii ia ib
    have hlgv30 := L.b0.lt
    replace L := L.varI w5.heap.size rfl (ng M3) A13 (zl M3) c13 E3 (ng N3) B13 (zl N3) d13 G3
    have cel50 := L.tl.tl.tl.tl.tl.b0.c60
    have cel51 := L.tl.tl.tl.tl.tl.b0.c61
    have cel52 := L.tl.tl.tl.tl.tl.b0.c62
    have cel53 := L.tl.tl.tl.tl.tl.b0.c63
    have cel54 := L.tl.tl.tl.tl.tl.b0.c64
    have cel55 := L.tl.tl.tl.tl.tl.b0.c65
    have cel60 := L.tl.tl.tl.tl.tl.tl.b0.c60
    have cel61 := L.tl.tl.tl.tl.tl.tl.b0.c61
    have cel62 := L.tl.tl.tl.tl.tl.tl.b0.c62
    have cel63 := L.tl.tl.tl.tl.tl.tl.b0.c63
    have cel64 := L.tl.tl.tl.tl.tl.tl.b0.c64
    have cel65 := L.tl.tl.tl.tl.tl.tl.b0.c65
    go_wp2_with fail
    obtain ⟨gv3, hg⟩ : ∃ g, w5.heap.size = g := ⟨_, rfl⟩
    rw [hg] at L hlgv30 ⊢
    clear hg
    refine (P4.out _ _ _ (isI_n (m := m) (e := e) (n := n) (f := f) (s := .slice A (zl m) c) (t := .slice B (zl n) d) (L.getN (by simp)) (L.getN (by simp))) (isI_n (m := m2) (e := e2) (n := n2) (f := f2) (s := .slice A2 (zl m2) k2) (t := .slice B2 (zl n2) d2) (L.getN (by simp)) (L.getN (by simp))) L.below).mono ?_
    rintro e w6 ⟨vv, rfl, ii, be⟩
    clear cel50 cel51 cel52 cel53 cel54 cel55 cel60 cel61 cel62 cel63 cel64 cel65
    obtain ⟨A14, c14, B14, d14, rfl, ia, ib⟩ := ii.form
    replace L := ((L.step be).n ib).n ia
    clear be ii ia ib
    have hlgv40 := L.b0.lt
    replace L := L.varI w6.heap.size rfl (ng M4) A14 (zl M4) c14 E4 (ng N4) B14 (zl N4) d14 G4
    have cel40 := L.tl.tl.tl.tl.b0.c60
    have cel41 := L.tl.tl.tl.tl.b0.c61
    have cel42 := L.tl.tl.tl.tl.b0.c62
    have cel43 := L.tl.tl.tl.tl.b0.c63
    have cel44 := L.tl.tl.tl.tl.b0.c64
    have cel45 := L.tl.tl.tl.tl.b0.c65
    have cel50 := L.tl.tl.tl.tl.tl.b0.c60
    have cel51 := L.tl.tl.tl.tl.tl.b0.c61
    have cel52 := L.tl.tl.tl.tl.tl.b0.c62
    have cel53 := L.tl.tl.tl.tl.tl.b0.c63
    have cel54 := L.tl.tl.tl.tl.tl.b0.c64
    have cel55 := L.tl.tl.tl.tl.tl.b0.c65
    go_wp2_with fail
    obtain ⟨gv4, hg⟩ : ∃ g, w6.heap.size = g := ⟨_, rfl⟩
    rw [hg] at L hlgv40 ⊢
    clear hg
    refine (P5.out _ _ _ (isI_n (m := m) (e := e) (n := n3) (f := f3) (s := .slice A5 (zl m) c5) (t := .slice B5 (zl n3) d5) (L.getN (by simp)) (L.getN (by simp))) (isI_n (m := m2) (e := e2) (n := n4) (f := f4) (s := .slice A6 (zl m2) c6) (t := .slice B6 (zl n4) d6) (L.getN (by simp)) (L.getN (by simp))) L.below).mono ?_
    rintro e w7 ⟨vv, rfl, ii, be⟩
    clear cel40 cel41 cel42 cel43 cel44 cel45 cel50 cel51 cel52 cel53 cel54 cel55
    obtain ⟨A15, c15, B15, d15, rfl, ia, ib⟩ := ii.form
    replace L := ((L.step be).n ib).n ia
    clear be ii ia ib
    have hlgv50 := L.b0.lt
    replace L := L.varI w7.heap.size rfl (ng M5) A15 (zl M5) c15 E5 (ng N5) B15 (zl N5) d15 G5
    have cel30 := L.tl.tl.tl.b0.c60
    have cel31 := L.tl.tl.tl.b0.c61
    have cel32 := L.tl.tl.tl.b0.c62
    have cel33 := L.tl.tl.tl.b0.c63
    have cel34 := L.tl.tl.tl.b0.c64
    have cel35 := L.tl.tl.tl.b0.c65
    have cel40 := L.tl.tl.tl.tl.b0.c60
    have cel41 := L.tl.tl.tl.tl.b0.c61
    have cel42 := L.tl.tl.tl.tl.b0.c62
    have cel43 := L.tl.tl.tl.tl.b0.c63
    have cel44 := L.tl.tl.tl.tl.b0.c64
    have cel45 := L.tl.tl.tl.tl.b0.c65
    go_wp2_with fail
    obtain ⟨gv5, hg⟩ : ∃ g, w7.heap.size = g := ⟨_, rfl⟩
    rw [hg] at L hlgv50 ⊢
    clear hg
    refine (W1.out _ _ _ (isI_n (m := M2) (e := E2) (n := N2) (f := G2) (s := .slice A12 (zl M2) c12) (t := .slice B12 (zl N2) d12) (L.getN (by simp)) (L.getN (by simp))) (isI_n (m := M1) (e := E1) (n := N1) (f := G1) (s := .slice A11 (zl M1) c11) (t := .slice B11 (zl N1) d11) (L.getN (by simp)) (L.getN (by simp)))).mono ?_
    rintro e w8 ⟨rfl, be⟩
    clear cel30 cel31 cel32 cel33 cel34 cel35 cel40 cel41 cel42 cel43 cel44 cel45
    replace L := L.step be
    clear be
    have cel20 := L.tl.tl.b0.c60
    have cel21 := L.tl.tl.b0.c61
    have cel22 := L.tl.tl.b0.c62
    have cel23 := L.tl.tl.b0.c63
    have cel24 := L.tl.tl.b0.c64
    have cel25 := L.tl.tl.b0.c65
    have cel40 := L.tl.tl.tl.tl.b0.c60
    have cel41 := L.tl.tl.tl.tl.b0.c61
    have cel42 := L.tl.tl.tl.tl.b0.c62
    have cel43 := L.tl.tl.tl.tl.b0.c63
    have cel44 := L.tl.tl.tl.tl.b0.c64
    have cel45 := L.tl.tl.tl.tl.b0.c65
    go_wp2_with fail
    refine (W2.out _ _ _ (isI_n (m := M3) (e := E3) (n := N3) (f := G3) (s := .slice A13 (zl M3) c13) (t := .slice B13 (zl N3) d13) (L.getN (by simp)) (L.getN (by simp))) (isI_n (m := M1) (e := E1) (n := N1) (f := G1) (s := .slice A11 (zl M1) c11) (t := .slice B11 (zl N1) d11) (L.getN (by simp)) (L.getN (by simp)))).mono ?_
    rintro e w9 ⟨rfl, be⟩
    clear cel20 cel21 cel22 cel23 cel24 cel25 cel40 cel41 cel42 cel43 cel44 cel45
    replace L := L.step be
    clear be
    have cel00 := L.b0.c60
    have cel01 := L.b0.c61
    have cel02 := L.b0.c62
    have cel03 := L.b0.c63
    have cel04 := L.b0.c64
    have cel05 := L.b0.c65
    have cel10 := L.tl.b0.c60
    have cel11 := L.tl.b0.c61
    have cel12 := L.tl.b0.c62
    have cel13 := L.tl.b0.c63
    have cel14 := L.tl.b0.c64
    have cel15 := L.tl.b0.c65
    go_wp2_with fail
    refine (W3.out _ _ _ (isI_n (m := M5) (e := E5) (n := N5) (f := G5) (s := .slice A15 (zl M5) c15) (t := .slice B15 (zl N5) d15) (L.getN (by simp)) (L.getN (by simp))) (isI_n (m := M4) (e := E4) (n := N4) (f := G4) (s := .slice A14 (zl M4) c14) (t := .slice B14 (zl N4) d14) (L.getN (by simp)) (L.getN (by simp)))).mono ?_
    rintro e w10 ⟨rfl, be⟩
    clear cel00 cel01 cel02 cel03 cel04 cel05 cel10 cel11 cel12 cel13 cel14 cel15
    replace L := L.step be
    clear be
    go_wp2_with fail
    go_ret
    exact ⟨rfl, L.below⟩

end Go.Proofs.YtoobcngbnjeddaaGreatDoor
