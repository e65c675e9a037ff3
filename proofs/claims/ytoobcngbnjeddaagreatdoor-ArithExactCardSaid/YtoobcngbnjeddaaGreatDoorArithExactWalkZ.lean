/- The walk of ArithExact: whatever the input, the law returns true and turns nothing that was there. -/
import Derived.Test.YtoobcngbnjeddaaGreatDoorAwake11Z
import Derived.Test.YtoobcngbnjeddaaGreatDoorBaseWZ
import Derived.Test.YtoobcngbnjeddaaGreatDoorRefArAddZ
import Derived.Test.YtoobcngbnjeddaaGreatDoorRefArSubZ
import Derived.Test.YtoobcngbnjeddaaGreatDoorRefArMuZ
import Derived.Test.YtoobcngbnjeddaaGreatDoorBaseQZ
import Derived.Deep.RegionHeld3
import Derived.Deep.DrawnRows
namespace Go.Proofs.YtoobcngbnjeddaaGreatDoor
open Go.RowKit
set_option linter.unusedVariables false
set_option linter.unusedSimpArgs false
set_option maxRecDepth 100000
attribute [local go_sem ↓] Go.wp_at_zero Go.wp_at_succ

set_option maxHeartbeats 64000000 in
theorem walk_ArithExact (b0 : Bool) (a0 : Option Addr) (len0 cap0 : Nat) (z0 : List Nat) (f0 : Int) (bb0 : Bool) (aa0 : Option Addr) (ll0 cc0 : Nat) (zz0 : List Nat) (ff0 : Int) (b1 : Bool) (a1 : Option Addr) (len1 cap1 : Nat) (z1 : List Nat) (f1 : Int) (bb1 : Bool) (aa1 : Option Addr) (ll1 cc1 : Nat) (zz1 : List Nat) (ff1 : Int) (a2 : Int) (w : World) (h0 : Sl w a0 len0 cap0 z0 ∧ -9223372036854775808 ≤ f0 ∧ f0 ≤ 9223372036854775807) (k0 : Sl w aa0 ll0 cc0 zz0 ∧ -9223372036854775808 ≤ ff0 ∧ ff0 ≤ 9223372036854775807) (h1 : Sl w a1 len1 cap1 z1 ∧ -9223372036854775808 ≤ f1 ∧ f1 ≤ 9223372036854775807) (k1 : Sl w aa1 ll1 cc1 zz1 ∧ -9223372036854775808 ≤ ff1 ∧ ff1 ≤ 9223372036854775807) (h2 : -9223372036854775808 ≤ a2 ∧ a2 ≤ 9223372036854775807) (hT : Tab w) :
    Calls Tryz.prog 3 #[.agg #[.bool b0, .slice a0 len0 cap0, .int .i64 f0, .bool bb0, .slice aa0 ll0 cc0, .int .i64 ff0], .agg #[.bool b1, .slice a1 len1 cap1, .int .i64 f1, .bool bb1, .slice aa1 ll1 cc1, .int .i64 ff1], .int .i64 a2] w (fun e w' => e = .returned (.bool true) ∧ Below w.heap.size w w') := by
  have HT := Lib.hid (fun W (hW : Below w.heap.size w W) => hT.mono hW)
  clear hT
  go_enter Tryz.func3, Tryz.ntmps3
  go_wp2_with fail
  have L := (((Lq.mk0 w).varI (w.heap.size) (by simp) b0 a0 len0 cap0 f0 bb0 aa0 ll0 cc0 ff0).varI (w.heap.size + 1) (by simp) b1 a1 len1 cap1 f1 bb1 aa1 ll1 cc1 ff1)
  (try go_wp2_with fail)
  refine (awake11_any _ (HT.out _ L.below)).mono ?_
  rintro e9 w1 ⟨rfl, be⟩
  replace L := L.step be
  clear be
  have c00 := L.b0.c60
  have c01 := L.b0.c61
  have c02 := L.b0.c62
  have c03 := L.b0.c63
  have c04 := L.b0.c64
  have c05 := L.b0.c65
  have c10 := L.tl.b0.c60
  have c11 := L.tl.b0.c61
  have c12 := L.tl.b0.c62
  have c13 := L.tl.b0.c63
  have c14 := L.tl.b0.c64
  have c15 := L.tl.b0.c65
  (try go_wp2_with fail)
  refine (two11_any b0 bb0 z0 zz0 a0 aa0 len0 cap0 ll0 cc0 f0 ff0 b1 bb1 z1 zz1 a1 aa1 len1 cap1 ll1 cc1 f1 ff1 _ (h0.1.mono L.below) (k0.1.mono L.below) h0.2 k0.2 (h1.1.mono L.below) (k1.1.mono L.below) h1.2 k1.2).mono ?_
  rintro e9 w2 ⟨vx, vy, ok, m, e, n, f, m2, e2, n2, f2, rfl, ix, iy, ⟨lm, he⟩, ⟨ln, hf⟩, ⟨lm2, he2⟩, ⟨ln2, hf2⟩, hv, le1, le2, be⟩
  clear c00 c01 c02 c03 c04 c05 c10 c11 c12 c13 c14 c15
  obtain ⟨A, c, B, d, rfl, i1, i2⟩ := ix.form
  obtain ⟨A2, k2, B2, d2, rfl, i3, i4⟩ := iy.form
  replace L := ((((L.step be).n i4).n i3).n i2).n i1
  clear be ix iy i1 i2 i3 i4
  have hlt0 := L.b0.lt
  replace L := (L.varI w2.heap.size rfl (ng m) A (zl m) c e (ng n) B (zl n) d f).varI (w2.heap.size + 1) (by simp) (ng m2) A2 (zl m2) k2 e2 (ng n2) B2 (zl n2) d2 f2
  cases ok
  · go_wp2_with fail
    go_ret
    exact ⟨rfl, L.below⟩
  clear hv
  have cel00 := L.b0.c60
  have cel01 := L.b0.c61
  have cel02 := L.b0.c62
  have cel03 := L.b0.c63
  have cel04 := L.b0.c64
  have cel05 := L.b0.c65
  have cel10 := L.tl.b0.c60
  have cel11 := L.tl.b0.c61
  have cel12 := L.tl.b0.c62
  have cel13 := L.tl.b0.c63
  have cel14 := L.tl.b0.c64
  have cel15 := L.tl.b0.c65
  go_wp2_with fail
  obtain ⟨g, hg⟩ : ∃ g, w2.heap.size = g := ⟨_, rfl⟩
  rw [hg] at L hlt0 cel00 cel01 cel02 cel03 cel04 cel05 cel10 cel11 cel12 cel13 cel14 cel15 ⊢
  clear hg
  refine (works_any a2 _ h2.1 h2.2).mono ?_
  rintro e9 w3 ⟨gw, N0, N1, N2, N3, rfl, hvw, hNN, be⟩
  replace L := L.step be
  clear be
  clear cel00 cel01 cel02 cel03 cel04 cel05 cel10 cel11 cel12 cel13 cel14 cel15
  have HCE := Lib.hid (fun (wr : World) (hW : Below w3.heap.size w3 wr) (j : Nat) (hj : j < 4) => row4_cell (hvw.mono hW) hNN j hj)
  have hgw := hvw.lt
  have GA := Lib.hid (fun (wr : World) (hW : Below w3.heap.size w3 wr) => (L.getN (v := .slice A (zl m) c) (x := m.natAbs) (by simp)).mono hW)
  have GB := Lib.hid (fun (wr : World) (hW : Below w3.heap.size w3 wr) => (L.getN (v := .slice B (zl n) d) (x := n.natAbs) (by simp)).mono hW)
  have GC := Lib.hid (fun (wr : World) (hW : Below w3.heap.size w3 wr) => (L.getN (v := .slice A2 (zl m2) k2) (x := m2.natAbs) (by simp)).mono hW)
  have GD := Lib.hid (fun (wr : World) (hW : Below w3.heap.size w3 wr) => (L.getN (v := .slice B2 (zl n2) d2) (x := n2.natAbs) (by simp)).mono hW)
  have VX := Lib.hid (fun (wr : World) (hW : Below w3.heap.size w3 wr) => L.tl.b0.mono hW)
  have VY := Lib.hid (fun (wr : World) (hW : Below w3.heap.size w3 wr) => L.b0.mono hW)
  have hwV := L.below.size
  have hWW := Lib.hid (fun (wr : World) (hW : Below w3.heap.size w3 wr) => L.below.trans (hW.mono hwV))
  clear hNN hvw L
  go_wp2_with fail
  go_loopw [42] (fun i wr => ∃ t : Nat, i = .int .i64 (t : Int) ∧ t ≤ 4 ∧ Below w3.heap.size w3 wr) (fun i _ => 4 - (intOf i).toNat)
  case atStart => exact ⟨0, rfl, by omega, Below.refl _ _⟩
  case round =>
    obtain ⟨t, rfl, ht, hbe⟩ := hrel
    have hbs := hbe.size
    have hw9 := (hWW.out wr hbe).size
    have HW0 := Lib.hid (fun W (hW : Below wr.heap.size wr W) => (hWW.out wr hbe).trans (hW.mono hw9))
    rcases Nat.eq_or_lt_of_le ht with rfl | ht3
    · go_wp2_with fail
      go_ret
      exact ⟨rfl, HW0.out _ (Below.refl _ _)⟩
    · obtain ⟨N, hN, hNa, hNb⟩ := HCE.out wr hbe t ht3
      have hlt : (t : Int) < 4 := by omega
      have ht0 : (0 : Int) ≤ (t : Int) := by omega
      have L : Lq wr wr [(.slice A (zl m) c, m.natAbs), (.slice B (zl n) d, n.natAbs), (.slice A2 (zl m2) k2, m2.natAbs), (.slice B2 (zl n2) d2, n2.natAbs)] [] [] [(g + 1, 28, #[.bool (ng m2), .slice A2 (zl m2) k2, .int .i64 e2, .bool (ng n2), .slice B2 (zl n2) d2, .int .i64 f2]), (g, 28, #[.bool (ng m), .slice A (zl m) c, .int .i64 e, .bool (ng n), .slice B (zl n) d, .int .i64 f])] := ((((((Lq.mk0 wr).n (GD.out wr hbe)).n (GC.out wr hbe)).n (GB.out wr hbe)).n (GA.out wr hbe)).b (VX.out wr hbe)).b (VY.out wr hbe)
      obtain ⟨M1, E1, N1, G1, r1, fx1, ⟨zm1, ze1⟩, ⟨zn1, zg1⟩, j9a, j9b⟩ := RetEn.fix (dq m e + dq m2 e2) (dq n f + dq n2 f2) N
      clear j9a j9b
      obtain ⟨M2, E2, N2, G2, r2, fx2, ⟨zm2, ze2⟩, ⟨zn2, zg2⟩, j9a, j9b⟩ := RetEn.fix (dq m e - dq n2 f2) (dq n f - dq m2 e2) N
      clear j9a j9b
      obtain ⟨M3, E3, N3, G3, r3, fx3, ⟨zm3, ze3⟩, ⟨zn3, zg3⟩, j9a, j9b⟩ := RetEn.fix (min4 (dq m e * dq m2 e2) (dq m e * dq n2 f2) (dq n f * dq m2 e2) (dq n f * dq n2 f2)) (max4 (dq m e * dq m2 e2) (dq m e * dq n2 f2) (dq n f * dq m2 e2) (dq n f * dq n2 f2)) N
      clear j9a j9b
      obtain ⟨M4, E4, N4, G4, r4, fx4, ⟨zm4, ze4⟩, ⟨zn4, zg4⟩, j9a, j9b⟩ := RetEn.fix (-(dq n f)) (-(dq m e)) N
      clear j9a j9b
      have p1 := fun v u W h1 h2 (hW : Below wr.heap.size wr W) => aadd_any m e n f m2 e2 n2 f2 N v u W h1 h2 (by omega) (by omega) (by omega) (by omega) (by omega) (by omega) (by omega) (by omega) le1 le2 hNa hNb (HT.out W (HW0.out W hW))
      have q1 := fun v u W h1 h2 => r11add_any m e n f m2 e2 n2 f2 N v u W h1 h2 (by omega) (by omega) (by omega) (by omega) (by omega) (by omega) (by omega) (by omega) le1 le2 hNa hNb
      have p2 := fun v u W h1 h2 (hW : Below wr.heap.size wr W) => asub_any m e n f m2 e2 n2 f2 N v u W h1 h2 (by omega) (by omega) (by omega) (by omega) (by omega) (by omega) (by omega) (by omega) le1 le2 hNa hNb (HT.out W (HW0.out W hW))
      have q2 := fun v u W h1 h2 => r11sub_any m e n f m2 e2 n2 f2 N v u W h1 h2 (by omega) (by omega) (by omega) (by omega) (by omega) (by omega) (by omega) (by omega) le1 le2 hNa hNb
      have p3 := fun v u W h1 h2 (hW : Below wr.heap.size wr W) => amul_any m e n f m2 e2 n2 f2 N v u W h1 h2 (by omega) (by omega) (by omega) (by omega) (by omega) (by omega) (by omega) (by omega) le1 le2 hNa hNb (HT.out W (HW0.out W hW))
      have q3 := fun v u W h1 h2 => r11mul_any m e n f m2 e2 n2 f2 N v u W h1 h2 (by omega) (by omega) (by omega) (by omega) (by omega) (by omega) (by omega) (by omega) hNa hNb
      have p4 := fun v W h1 (hW : Below wr.heap.size wr W) => aneg_any m e n f N v W h1 (by omega) (by omega) (by omega) (by omega) le1 hNa hNb (HT.out W (HW0.out W hW))
      have q4 := fun v W h1 => r11neg_any m e n f N v W h1 (by omega) (by omega) (by omega) (by omega) le1 hNa hNb
      simp only [fx1] at p1 q1
      have P1 := Lib.hid p1
      have Q1 := Lib.hid q1
      have S1 := Lib.hid (fun v u W h1 h2 => (show Calls Tryz.prog 20 #[v, u] W (RetB W true) from by have s := r10same_any M1 E1 N1 G1 M1 E1 N1 G1 v u W h1 h2 (by omega) (by omega) (by omega) (by omega) (by omega) (by omega) (by omega) (by omega); rwa [show ((decide ((E1 : Int) = E1) && decide ((M1 : Int) = M1)) && (decide ((G1 : Int) = G1) && decide ((N1 : Int) = N1))) = true from by simp] at s))
      have ne1 : (r1 != r1) = false := by simp
      clear p1 q1 fx1 zm1 ze1 zn1 zg1
      simp only [fx2] at p2 q2
      have P2 := Lib.hid p2
      have Q2 := Lib.hid q2
      have S2 := Lib.hid (fun v u W h1 h2 => (show Calls Tryz.prog 20 #[v, u] W (RetB W true) from by have s := r10same_any M2 E2 N2 G2 M2 E2 N2 G2 v u W h1 h2 (by omega) (by omega) (by omega) (by omega) (by omega) (by omega) (by omega) (by omega); rwa [show ((decide ((E2 : Int) = E2) && decide ((M2 : Int) = M2)) && (decide ((G2 : Int) = G2) && decide ((N2 : Int) = N2))) = true from by simp] at s))
      have ne2 : (r2 != r2) = false := by simp
      clear p2 q2 fx2 zm2 ze2 zn2 zg2
      simp only [fx3] at p3 q3
      have P3 := Lib.hid p3
      have Q3 := Lib.hid q3
      have S3 := Lib.hid (fun v u W h1 h2 => (show Calls Tryz.prog 20 #[v, u] W (RetB W true) from by have s := r10same_any M3 E3 N3 G3 M3 E3 N3 G3 v u W h1 h2 (by omega) (by omega) (by omega) (by omega) (by omega) (by omega) (by omega) (by omega); rwa [show ((decide ((E3 : Int) = E3) && decide ((M3 : Int) = M3)) && (decide ((G3 : Int) = G3) && decide ((N3 : Int) = N3))) = true from by simp] at s))
      have ne3 : (r3 != r3) = false := by simp
      clear p3 q3 fx3 zm3 ze3 zn3 zg3
      simp only [fx4] at p4 q4
      have P4 := Lib.hid p4
      have Q4 := Lib.hid q4
      have S4 := Lib.hid (fun v u W h1 h2 => (show Calls Tryz.prog 20 #[v, u] W (RetB W true) from by have s := r10same_any M4 E4 N4 G4 M4 E4 N4 G4 v u W h1 h2 (by omega) (by omega) (by omega) (by omega) (by omega) (by omega) (by omega) (by omega); rwa [show ((decide ((E4 : Int) = E4) && decide ((M4 : Int) = M4)) && (decide ((G4 : Int) = G4) && decide ((N4 : Int) = N4))) = true from by simp] at s))
      have ne4 : (r4 != r4) = false := by simp
      clear p4 q4 fx4 zm4 ze4 zn4 zg4
      clear le1 le2 lm ln lm2 ln2 he hf he2 hf2 HCE GA GB GC GD VX VY hNa hNb
      have cel00 := L.b0.c60
      have cel01 := L.b0.c61
      have cel02 := L.b0.c62
      have cel03 := L.b0.c63
      have cel04 := L.b0.c64
      have cel05 := L.b0.c65
      have cel10 := L.tl.b0.c60
      have cel11 := L.tl.b0.c61
      have cel12 := L.tl.b0.c62
      have cel13 := L.tl.b0.c63
      have cel14 := L.tl.b0.c64
      have cel15 := L.tl.b0.c65
      go_wp2_with fail
      refine (P1.out _ _ _ (isI_n (m := m) (e := e) (n := n) (f := f) (s := .slice A (zl m) c) (t := .slice B (zl n) d) (L.getN (by simp)) (L.getN (by simp))) (isI_n (m := m2) (e := e2) (n := n2) (f := f2) (s := .slice A2 (zl m2) k2) (t := .slice B2 (zl n2) d2) (L.getN (by simp)) (L.getN (by simp))) L.below).mono ?_
      rintro e w101 ⟨vv, rfl, ii, be⟩
      clear cel00 cel01 cel02 cel03 cel04 cel05 cel10 cel11 cel12 cel13 cel14 cel15
      obtain ⟨A10, c10, B10, d10, rfl, ia, ib⟩ := ii.form
      replace L := ((L.step be).n ib).n ia
      clear be ii ia ib
      have hlgv0 := L.b0.lt
      replace L := L.varI w101.heap.size rfl (ng M1) A10 (zl M1) c10 E1 (ng N1) B10 (zl N1) d10 G1
      have cel10 := L.tl.b0.c60
      have cel11 := L.tl.b0.c61
      have cel12 := L.tl.b0.c62
      have cel13 := L.tl.b0.c63
      have cel14 := L.tl.b0.c64
      have cel15 := L.tl.b0.c65
      have cel20 := L.tl.tl.b0.c60
      have cel21 := L.tl.tl.b0.c61
      have cel22 := L.tl.tl.b0.c62
      have cel23 := L.tl.tl.b0.c63
      have cel24 := L.tl.tl.b0.c64
      have cel25 := L.tl.tl.b0.c65
      go_wp2_with fail
      obtain ⟨gv0, hg⟩ : ∃ g, w101.heap.size = g := ⟨_, rfl⟩
      rw [hg] at L hlgv0 ⊢
      clear hg
      refine (P2.out _ _ _ (isI_n (m := m) (e := e) (n := n) (f := f) (s := .slice A (zl m) c) (t := .slice B (zl n) d) (L.getN (by simp)) (L.getN (by simp))) (isI_n (m := m2) (e := e2) (n := n2) (f := f2) (s := .slice A2 (zl m2) k2) (t := .slice B2 (zl n2) d2) (L.getN (by simp)) (L.getN (by simp))) L.below).mono ?_
      rintro e w102 ⟨vv, rfl, ii, be⟩
      clear cel10 cel11 cel12 cel13 cel14 cel15 cel20 cel21 cel22 cel23 cel24 cel25
      obtain ⟨A11, c11, B11, d11, rfl, ia, ib⟩ := ii.form
      replace L := ((L.step be).n ib).n ia
      clear be ii ia ib
      have hlgv1 := L.b0.lt
      replace L := L.varI w102.heap.size rfl (ng M2) A11 (zl M2) c11 E2 (ng N2) B11 (zl N2) d11 G2
      have cel20 := L.tl.tl.b0.c60
      have cel21 := L.tl.tl.b0.c61
      have cel22 := L.tl.tl.b0.c62
      have cel23 := L.tl.tl.b0.c63
      have cel24 := L.tl.tl.b0.c64
      have cel25 := L.tl.tl.b0.c65
      have cel30 := L.tl.tl.tl.b0.c60
      have cel31 := L.tl.tl.tl.b0.c61
      have cel32 := L.tl.tl.tl.b0.c62
      have cel33 := L.tl.tl.tl.b0.c63
      have cel34 := L.tl.tl.tl.b0.c64
      have cel35 := L.tl.tl.tl.b0.c65
      go_wp2_with fail
      obtain ⟨gv1, hg⟩ : ∃ g, w102.heap.size = g := ⟨_, rfl⟩
      rw [hg] at L hlgv1 ⊢
      clear hg
      refine (P3.out _ _ _ (isI_n (m := m) (e := e) (n := n) (f := f) (s := .slice A (zl m) c) (t := .slice B (zl n) d) (L.getN (by simp)) (L.getN (by simp))) (isI_n (m := m2) (e := e2) (n := n2) (f := f2) (s := .slice A2 (zl m2) k2) (t := .slice B2 (zl n2) d2) (L.getN (by simp)) (L.getN (by simp))) L.below).mono ?_
      rintro e w103 ⟨vv, rfl, ii, be⟩
      clear cel20 cel21 cel22 cel23 cel24 cel25 cel30 cel31 cel32 cel33 cel34 cel35
      obtain ⟨A12, c12, B12, d12, rfl, ia, ib⟩ := ii.form
      replace L := ((L.step be).n ib).n ia
      clear be ii ia ib
      have hlgv2 := L.b0.lt
      replace L := L.varI w103.heap.size rfl (ng M3) A12 (zl M3) c12 E3 (ng N3) B12 (zl N3) d12 G3
      have cel30 := L.tl.tl.tl.b0.c60
      have cel31 := L.tl.tl.tl.b0.c61
      have cel32 := L.tl.tl.tl.b0.c62
      have cel33 := L.tl.tl.tl.b0.c63
      have cel34 := L.tl.tl.tl.b0.c64
      have cel35 := L.tl.tl.tl.b0.c65
      have cel40 := L.tl.tl.tl.tl.b0.c60
      have cel41 := L.tl.tl.tl.tl.b0.c61
      have cel42 := L.tl.tl.tl.tl.b0.c62
      have cel43 := L.tl.tl.tl.tl.b0.c63
      have cel44 := L.tl.tl.tl.tl.b0.c64
      have cel45 := L.tl.tl.tl.tl.b0.c65
      go_wp2_with fail
      obtain ⟨gv2, hg⟩ : ∃ g, w103.heap.size = g := ⟨_, rfl⟩
      rw [hg] at L hlgv2 ⊢
      clear hg
      refine (P4.out _ _ (isI_n (m := m) (e := e) (n := n) (f := f) (s := .slice A (zl m) c) (t := .slice B (zl n) d) (L.getN (by simp)) (L.getN (by simp))) L.below).mono ?_
      rintro e w104 ⟨vv, rfl, ii, be⟩
      clear cel30 cel31 cel32 cel33 cel34 cel35 cel40 cel41 cel42 cel43 cel44 cel45
      obtain ⟨A13, c13, B13, d13, rfl, ia, ib⟩ := ii.form
      replace L := ((L.step be).n ib).n ia
      clear be ii ia ib
      have hlgv3 := L.b0.lt
      replace L := L.varI w104.heap.size rfl (ng M4) A13 (zl M4) c13 E4 (ng N4) B13 (zl N4) d13 G4
      have cel40 := L.tl.tl.tl.tl.b0.c60
      have cel41 := L.tl.tl.tl.tl.b0.c61
      have cel42 := L.tl.tl.tl.tl.b0.c62
      have cel43 := L.tl.tl.tl.tl.b0.c63
      have cel44 := L.tl.tl.tl.tl.b0.c64
      have cel45 := L.tl.tl.tl.tl.b0.c65
      have cel50 := L.tl.tl.tl.tl.tl.b0.c60
      have cel51 := L.tl.tl.tl.tl.tl.b0.c61
      have cel52 := L.tl.tl.tl.tl.tl.b0.c62
      have cel53 := L.tl.tl.tl.tl.tl.b0.c63
      have cel54 := L.tl.tl.tl.tl.tl.b0.c64
      have cel55 := L.tl.tl.tl.tl.tl.b0.c65
      go_wp2_with fail
      obtain ⟨gv3, hg⟩ : ∃ g, w104.heap.size = g := ⟨_, rfl⟩
      rw [hg] at L hlgv3 ⊢
      clear hg
      refine (Q1.out _ _ _ (isI_n (m := m) (e := e) (n := n) (f := f) (s := .slice A (zl m) c) (t := .slice B (zl n) d) (L.getN (by simp)) (L.getN (by simp))) (isI_n (m := m2) (e := e2) (n := n2) (f := f2) (s := .slice A2 (zl m2) k2) (t := .slice B2 (zl n2) d2) (L.getN (by simp)) (L.getN (by simp)))).mono ?_
      rintro e w105 ⟨vv, rfl, ii, be⟩
      clear cel40 cel41 cel42 cel43 cel44 cel45 cel50 cel51 cel52 cel53 cel54 cel55
      obtain ⟨A14, c14, B14, d14, rfl, ia, ib⟩ := ii.form
      replace L := ((L.step be).n ib).n ia
      clear be ii ia ib
      have hlgv4 := L.b0.lt
      replace L := L.varI w105.heap.size rfl (ng M1) A14 (zl M1) c14 E1 (ng N1) B14 (zl N1) d14 G1
      have cel50 := L.tl.tl.tl.tl.tl.b0.c60
      have cel51 := L.tl.tl.tl.tl.tl.b0.c61
      have cel52 := L.tl.tl.tl.tl.tl.b0.c62
      have cel53 := L.tl.tl.tl.tl.tl.b0.c63
      have cel54 := L.tl.tl.tl.tl.tl.b0.c64
      have cel55 := L.tl.tl.tl.tl.tl.b0.c65
      have cel60 := L.tl.tl.tl.tl.tl.tl.b0.c60
      have cel61 := L.tl.tl.tl.tl.tl.tl.b0.c61
      have cel62 := L.tl.tl.tl.tl.tl.tl.b0.c62
      have cel63 := L.tl.tl.tl.tl.tl.tl.b0.c63
      have cel64 := L.tl.tl.tl.tl.tl.tl.b0.c64
      have cel65 := L.tl.tl.tl.tl.tl.tl.b0.c65
      go_wp2_with fail
      obtain ⟨gv4, hg⟩ : ∃ g, w105.heap.size = g := ⟨_, rfl⟩
      rw [hg] at L hlgv4 ⊢
      clear hg
      refine (Q2.out _ _ _ (isI_n (m := m) (e := e) (n := n) (f := f) (s := .slice A (zl m) c) (t := .slice B (zl n) d) (L.getN (by simp)) (L.getN (by simp))) (isI_n (m := m2) (e := e2) (n := n2) (f := f2) (s := .slice A2 (zl m2) k2) (t := .slice B2 (zl n2) d2) (L.getN (by simp)) (L.getN (by simp)))).mono ?_
      rintro e w106 ⟨vv, rfl, ii, be⟩
      clear cel50 cel51 cel52 cel53 cel54 cel55 cel60 cel61 cel62 cel63 cel64 cel65
      obtain ⟨A15, c15, B15, d15, rfl, ia, ib⟩ := ii.form
      replace L := ((L.step be).n ib).n ia
      clear be ii ia ib
      have hlgv5 := L.b0.lt
      replace L := L.varI w106.heap.size rfl (ng M2) A15 (zl M2) c15 E2 (ng N2) B15 (zl N2) d15 G2
      have cel60 := L.tl.tl.tl.tl.tl.tl.b0.c60
      have cel61 := L.tl.tl.tl.tl.tl.tl.b0.c61
      have cel62 := L.tl.tl.tl.tl.tl.tl.b0.c62
      have cel63 := L.tl.tl.tl.tl.tl.tl.b0.c63
      have cel64 := L.tl.tl.tl.tl.tl.tl.b0.c64
      have cel65 := L.tl.tl.tl.tl.tl.tl.b0.c65
      have cel70 := L.tl.tl.tl.tl.tl.tl.tl.b0.c60
      have cel71 := L.tl.tl.tl.tl.tl.tl.tl.b0.c61
      have cel72 := L.tl.tl.tl.tl.tl.tl.tl.b0.c62
      have cel73 := L.tl.tl.tl.tl.tl.tl.tl.b0.c63
      have cel74 := L.tl.tl.tl.tl.tl.tl.tl.b0.c64
      have cel75 := L.tl.tl.tl.tl.tl.tl.tl.b0.c65
      go_wp2_with fail
      obtain ⟨gv5, hg⟩ : ∃ g, w106.heap.size = g := ⟨_, rfl⟩
      rw [hg] at L hlgv5 ⊢
      clear hg
      refine (Q3.out _ _ _ (isI_n (m := m) (e := e) (n := n) (f := f) (s := .slice A (zl m) c) (t := .slice B (zl n) d) (L.getN (by simp)) (L.getN (by simp))) (isI_n (m := m2) (e := e2) (n := n2) (f := f2) (s := .slice A2 (zl m2) k2) (t := .slice B2 (zl n2) d2) (L.getN (by simp)) (L.getN (by simp)))).mono ?_
      rintro e w107 ⟨vv, rfl, ii, be⟩
      clear cel60 cel61 cel62 cel63 cel64 cel65 cel70 cel71 cel72 cel73 cel74 cel75
      obtain ⟨A16, c16, B16, d16, rfl, ia, ib⟩ := ii.form
      replace L := ((L.step be).n ib).n ia
      clear be ii ia ib
      have hlgv6 := L.b0.lt
      replace L := L.varI w107.heap.size rfl (ng M3) A16 (zl M3) c16 E3 (ng N3) B16 (zl N3) d16 G3
      have cel70 := L.tl.tl.tl.tl.tl.tl.tl.b0.c60
      have cel71 := L.tl.tl.tl.tl.tl.tl.tl.b0.c61
      have cel72 := L.tl.tl.tl.tl.tl.tl.tl.b0.c62
      have cel73 := L.tl.tl.tl.tl.tl.tl.tl.b0.c63
      have cel74 := L.tl.tl.tl.tl.tl.tl.tl.b0.c64
      have cel75 := L.tl.tl.tl.tl.tl.tl.tl.b0.c65
      have cel80 := L.tl.tl.tl.tl.tl.tl.tl.tl.b0.c60
      have cel81 := L.tl.tl.tl.tl.tl.tl.tl.tl.b0.c61
      have cel82 := L.tl.tl.tl.tl.tl.tl.tl.tl.b0.c62
      have cel83 := L.tl.tl.tl.tl.tl.tl.tl.tl.b0.c63
      have cel84 := L.tl.tl.tl.tl.tl.tl.tl.tl.b0.c64
      have cel85 := L.tl.tl.tl.tl.tl.tl.tl.tl.b0.c65
      go_wp2_with fail
      obtain ⟨gv6, hg⟩ : ∃ g, w107.heap.size = g := ⟨_, rfl⟩
      rw [hg] at L hlgv6 ⊢
      clear hg
      refine (Q4.out _ _ (isI_n (m := m) (e := e) (n := n) (f := f) (s := .slice A (zl m) c) (t := .slice B (zl n) d) (L.getN (by simp)) (L.getN (by simp)))).mono ?_
      rintro e w108 ⟨vv, rfl, ii, be⟩
      clear cel70 cel71 cel72 cel73 cel74 cel75 cel80 cel81 cel82 cel83 cel84 cel85
      obtain ⟨A17, c17, B17, d17, rfl, ia, ib⟩ := ii.form
      replace L := ((L.step be).n ib).n ia
      clear be ii ia ib
      have hlgv7 := L.b0.lt
      replace L := L.varI w108.heap.size rfl (ng M4) A17 (zl M4) c17 E4 (ng N4) B17 (zl N4) d17 G4
      have cel00 := L.b0.c60
      have cel01 := L.b0.c61
      have cel02 := L.b0.c62
      have cel03 := L.b0.c63
      have cel04 := L.b0.c64
      have cel05 := L.b0.c65
      have cel10 := L.tl.b0.c60
      have cel11 := L.tl.b0.c61
      have cel12 := L.tl.b0.c62
      have cel13 := L.tl.b0.c63
      have cel14 := L.tl.b0.c64
      have cel15 := L.tl.b0.c65
      have cel20 := L.tl.tl.b0.c60
      have cel21 := L.tl.tl.b0.c61
      have cel22 := L.tl.tl.b0.c62
      have cel23 := L.tl.tl.b0.c63
      have cel24 := L.tl.tl.b0.c64
      have cel25 := L.tl.tl.b0.c65
      have cel30 := L.tl.tl.tl.b0.c60
      have cel31 := L.tl.tl.tl.b0.c61
      have cel32 := L.tl.tl.tl.b0.c62
      have cel33 := L.tl.tl.tl.b0.c63
      have cel34 := L.tl.tl.tl.b0.c64
      have cel35 := L.tl.tl.tl.b0.c65
      have cel40 := L.tl.tl.tl.tl.b0.c60
      have cel41 := L.tl.tl.tl.tl.b0.c61
      have cel42 := L.tl.tl.tl.tl.b0.c62
      have cel43 := L.tl.tl.tl.tl.b0.c63
      have cel44 := L.tl.tl.tl.tl.b0.c64
      have cel45 := L.tl.tl.tl.tl.b0.c65
      have cel50 := L.tl.tl.tl.tl.tl.b0.c60
      have cel51 := L.tl.tl.tl.tl.tl.b0.c61
      have cel52 := L.tl.tl.tl.tl.tl.b0.c62
      have cel53 := L.tl.tl.tl.tl.tl.b0.c63
      have cel54 := L.tl.tl.tl.tl.tl.b0.c64
      have cel55 := L.tl.tl.tl.tl.tl.b0.c65
      have cel60 := L.tl.tl.tl.tl.tl.tl.b0.c60
      have cel61 := L.tl.tl.tl.tl.tl.tl.b0.c61
      have cel62 := L.tl.tl.tl.tl.tl.tl.b0.c62
      have cel63 := L.tl.tl.tl.tl.tl.tl.b0.c63
      have cel64 := L.tl.tl.tl.tl.tl.tl.b0.c64
      have cel65 := L.tl.tl.tl.tl.tl.tl.b0.c65
      have cel70 := L.tl.tl.tl.tl.tl.tl.tl.b0.c60
      have cel71 := L.tl.tl.tl.tl.tl.tl.tl.b0.c61
      have cel72 := L.tl.tl.tl.tl.tl.tl.tl.b0.c62
      have cel73 := L.tl.tl.tl.tl.tl.tl.tl.b0.c63
      have cel74 := L.tl.tl.tl.tl.tl.tl.tl.b0.c64
      have cel75 := L.tl.tl.tl.tl.tl.tl.tl.b0.c65
      go_wp2_with fail
      obtain ⟨gv7, hg⟩ : ∃ g, w108.heap.size = g := ⟨_, rfl⟩
      rw [hg] at L hlgv7 cel00 cel01 cel02 cel03 cel04 cel05 ⊢
      clear hg
      refine (S1.out _ _ _ (isI_n (m := M1) (e := E1) (n := N1) (f := G1) (s := .slice A10 (zl M1) c10) (t := .slice B10 (zl N1) d10) (L.getN (by simp)) (L.getN (by simp))) (isI_n (m := M1) (e := E1) (n := N1) (f := G1) (s := .slice A14 (zl M1) c14) (t := .slice B14 (zl N1) d14) (L.getN (by simp)) (L.getN (by simp)))).mono ?_
      rintro e w109 ⟨rfl, be⟩
      clear cel00 cel01 cel02 cel03 cel04 cel05 cel10 cel11 cel12 cel13 cel14 cel15 cel20 cel21 cel22 cel23 cel24 cel25 cel30 cel31 cel32 cel33 cel34 cel35 cel40 cel41 cel42 cel43 cel44 cel45 cel50 cel51 cel52 cel53 cel54 cel55 cel60 cel61 cel62 cel63 cel64 cel65 cel70 cel71 cel72 cel73 cel74 cel75
      replace L := L.step be
      clear be
      have cel20 := L.tl.tl.b0.c60
      have cel21 := L.tl.tl.b0.c61
      have cel22 := L.tl.tl.b0.c62
      have cel23 := L.tl.tl.b0.c63
      have cel24 := L.tl.tl.b0.c64
      have cel25 := L.tl.tl.b0.c65
      have cel60 := L.tl.tl.tl.tl.tl.tl.b0.c60
      have cel61 := L.tl.tl.tl.tl.tl.tl.b0.c61
      have cel62 := L.tl.tl.tl.tl.tl.tl.b0.c62
      have cel63 := L.tl.tl.tl.tl.tl.tl.b0.c63
      have cel64 := L.tl.tl.tl.tl.tl.tl.b0.c64
      have cel65 := L.tl.tl.tl.tl.tl.tl.b0.c65
      go_wp2_with fail
      refine (S2.out _ _ _ (isI_n (m := M2) (e := E2) (n := N2) (f := G2) (s := .slice A11 (zl M2) c11) (t := .slice B11 (zl N2) d11) (L.getN (by simp)) (L.getN (by simp))) (isI_n (m := M2) (e := E2) (n := N2) (f := G2) (s := .slice A15 (zl M2) c15) (t := .slice B15 (zl N2) d15) (L.getN (by simp)) (L.getN (by simp)))).mono ?_
      rintro e w110 ⟨rfl, be⟩
      clear cel20 cel21 cel22 cel23 cel24 cel25 cel60 cel61 cel62 cel63 cel64 cel65
      replace L := L.step be
      clear be
      have cel10 := L.tl.b0.c60
      have cel11 := L.tl.b0.c61
      have cel12 := L.tl.b0.c62
      have cel13 := L.tl.b0.c63
      have cel14 := L.tl.b0.c64
      have cel15 := L.tl.b0.c65
      have cel50 := L.tl.tl.tl.tl.tl.b0.c60
      have cel51 := L.tl.tl.tl.tl.tl.b0.c61
      have cel52 := L.tl.tl.tl.tl.tl.b0.c62
      have cel53 := L.tl.tl.tl.tl.tl.b0.c63
      have cel54 := L.tl.tl.tl.tl.tl.b0.c64
      have cel55 := L.tl.tl.tl.tl.tl.b0.c65
      go_wp2_with fail
      refine (S3.out _ _ _ (isI_n (m := M3) (e := E3) (n := N3) (f := G3) (s := .slice A12 (zl M3) c12) (t := .slice B12 (zl N3) d12) (L.getN (by simp)) (L.getN (by simp))) (isI_n (m := M3) (e := E3) (n := N3) (f := G3) (s := .slice A16 (zl M3) c16) (t := .slice B16 (zl N3) d16) (L.getN (by simp)) (L.getN (by simp)))).mono ?_
      rintro e w111 ⟨rfl, be⟩
      clear cel10 cel11 cel12 cel13 cel14 cel15 cel50 cel51 cel52 cel53 cel54 cel55
      replace L := L.step be
      clear be
      have cel00 := L.b0.c60
      have cel01 := L.b0.c61
      have cel02 := L.b0.c62
      have cel03 := L.b0.c63
      have cel04 := L.b0.c64
      have cel05 := L.b0.c65
      have cel40 := L.tl.tl.tl.tl.b0.c60
      have cel41 := L.tl.tl.tl.tl.b0.c61
      have cel42 := L.tl.tl.tl.tl.b0.c62
      have cel43 := L.tl.tl.tl.tl.b0.c63
      have cel44 := L.tl.tl.tl.tl.b0.c64
      have cel45 := L.tl.tl.tl.tl.b0.c65
      go_wp2_with fail
      refine (S4.out _ _ _ (isI_n (m := M4) (e := E4) (n := N4) (f := G4) (s := .slice A13 (zl M4) c13) (t := .slice B13 (zl N4) d13) (L.getN (by simp)) (L.getN (by simp))) (isI_n (m := M4) (e := E4) (n := N4) (f := G4) (s := .slice A17 (zl M4) c17) (t := .slice B17 (zl N4) d17) (L.getN (by simp)) (L.getN (by simp)))).mono ?_
      rintro e w112 ⟨rfl, be⟩
      clear cel00 cel01 cel02 cel03 cel04 cel05 cel40 cel41 cel42 cel43 cel44 cel45
      replace L := L.step be
      clear be
      go_wp2_with fail
      go_roundw
      case rel => exact ⟨t + 1, by go_num, by omega, hbe.trans (L.below.mono hbs)⟩
      case measure => simp [intOf]; omega

end Go.Proofs.YtoobcngbnjeddaaGreatDoor
