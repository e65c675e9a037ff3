/- The walk of ArithContains: whatever the input, the law returns true and turns nothing that was there. -/
import Derived.Test.YtoobcngbnjeddaaGreatDoorAwake11
import Derived.Test.YtoobcngbnjeddaaGreatDoorBaseW
import Derived.Test.YtoobcngbnjeddaaGreatDoorArIn
import Derived.Test.YtoobcngbnjeddaaGreatDoorBaseX
import Derived.Test.YtoobcngbnjeddaaGreatDoorBaseD
import Derived.Deep.RegionHeld3
import Derived.Deep.DrawnRows
import Derived.Deep.Cut
import Derived.Deep.CutRange
namespace Go.Proofs.YtoobcngbnjeddaaGreatDoor
open Go.RowKit
set_option linter.unusedVariables false
set_option linter.unusedSimpArgs false
set_option maxRecDepth 100000
attribute [local go_sem ↓] Go.wp_at_zero Go.wp_at_succ

set_option maxHeartbeats 128000000 in
theorem walk_ArithContains (b0 : Bool) (a0 : Option Addr) (len0 cap0 : Nat) (z0 : List Nat) (f0 : Int) (bb0 : Bool) (aa0 : Option Addr) (ll0 cc0 : Nat) (zz0 : List Nat) (ff0 : Int) (b1 : Bool) (a1 : Option Addr) (len1 cap1 : Nat) (z1 : List Nat) (f1 : Int) (bb1 : Bool) (aa1 : Option Addr) (ll1 cc1 : Nat) (zz1 : List Nat) (ff1 : Int) (a2 : Int) (w : World) (h0 : Sl w a0 len0 cap0 z0 ∧ -9223372036854775808 ≤ f0 ∧ f0 ≤ 9223372036854775807) (k0 : Sl w aa0 ll0 cc0 zz0 ∧ -9223372036854775808 ≤ ff0 ∧ ff0 ≤ 9223372036854775807) (h1 : Sl w a1 len1 cap1 z1 ∧ -9223372036854775808 ≤ f1 ∧ f1 ≤ 9223372036854775807) (k1 : Sl w aa1 ll1 cc1 zz1 ∧ -9223372036854775808 ≤ ff1 ∧ ff1 ≤ 9223372036854775807) (h2 : -9223372036854775808 ≤ a2 ∧ a2 ≤ 9223372036854775807) (hT : Tab w) :
    Calls Tryz.prog 6 #[.agg #[.bool b0, .slice a0 len0 cap0, .int .i64 f0, .bool bb0, .slice aa0 ll0 cc0, .int .i64 ff0], .agg #[.bool b1, .slice a1 len1 cap1, .int .i64 f1, .bool bb1, .slice aa1 ll1 cc1, .int .i64 ff1], .int .i64 a2] w (fun e w' => e = .returned (.bool true) ∧ Below w.heap.size w w') := by
  have HT := Lib.hid (fun W (hW : Below w.heap.size w W) => hT.mono hW)
  clear hT
  go_enter Tryz.func6, Tryz.ntmps6
  go_wp2_with fail
  have L := (((Lq.mk0 w).varI (w.heap.size) (by simp) b0 a0 len0 cap0 f0 bb0 aa0 ll0 cc0 ff0).varI (w.heap.size + 1) (by simp) b1 a1 len1 cap1 f1 bb1 aa1 ll1 cc1 ff1)
  (try go_wp2_with fail)
  refine (awake11_any _ (HT.out _ L.below)).mono ?_
  rintro e9 w1 ⟨rfl, be⟩
  replace L := L.step be
  clear be
  have c00 := L.b0.c60
  have c01 := L.b0.c61
  have c02 := L.b0.c62
  have c03 := L.b0.c63
  have c04 := L.b0.c64
  have c05 := L.b0.c65
  have c10 := L.tl.b0.c60
  have c11 := L.tl.b0.c61
  have c12 := L.tl.b0.c62
  have c13 := L.tl.b0.c63
  have c14 := L.tl.b0.c64
  have c15 := L.tl.b0.c65
  (try go_wp2_with fail)
  refine (two11_any b0 bb0 z0 zz0 a0 aa0 len0 cap0 ll0 cc0 f0 ff0 b1 bb1 z1 zz1 a1 aa1 len1 cap1 ll1 cc1 f1 ff1 _ (h0.1.mono L.below) (k0.1.mono L.below) h0.2 k0.2 (h1.1.mono L.below) (k1.1.mono L.below) h1.2 k1.2).mono ?_
  rintro e9 w2 ⟨vx, vy, ok, m, e, n, f, m2, e2, n2, f2, rfl, ix, iy, ⟨lm, he⟩, ⟨ln, hf⟩, ⟨lm2, he2⟩, ⟨ln2, hf2⟩, hv, le1, le2, be⟩
  clear c00 c01 c02 c03 c04 c05 c10 c11 c12 c13 c14 c15
  obtain ⟨A, c, B, d, rfl, i1, i2⟩ := ix.form
  obtain ⟨A2, k2, B2, d2, rfl, i3, i4⟩ := iy.form
  replace L := ((((L.step be).n i4).n i3).n i2).n i1
  clear be ix iy i1 i2 i3 i4
  have hlt0 := L.b0.lt
  replace L := (L.varI w2.heap.size rfl (ng m) A (zl m) c e (ng n) B (zl n) d f).varI (w2.heap.size + 1) (by simp) (ng m2) A2 (zl m2) k2 e2 (ng n2) B2 (zl n2) d2 f2
  cases ok
  · go_wp2_with fail
    go_ret
    exact ⟨rfl, L.below⟩
  clear hv
  obtain ⟨r1, hr1⟩ : ∃ r : Nat, a2 % 100 = (r : Int) := ⟨(a2 % 100).toNat, by omega⟩
  have o1 := fun W => mod_any a2 100 W (by omega) (by omega) h2.1 h2.2
  rw [hr1] at o1
  have br1 : r1 < 100 := by omega
  clear hr1
  have c1 := (dcm_le _ _ _ _).1 le1
  have c2 := (dcm_le _ _ _ _).1 le2
  have s1 := sm_add lm lm2 he he2
  have s2 := sm_add ln ln2 hf hf2
  have s3 := sm_min4 (sm_mul lm lm2 he he2) (sm_mul lm ln2 he hf2) (sm_mul ln lm2 hf he2) (sm_mul ln ln2 hf hf2)
  have s4 := sm_max4 (sm_mul lm lm2 he he2) (sm_mul lm ln2 he hf2) (sm_mul ln lm2 hf he2) (sm_mul ln ln2 hf hf2)
  obtain ⟨M1, E1, N1, G1, fx1, ⟨zm1, ze1⟩, ⟨zn1, zg1⟩, _, _, hM1, hE1, hN1, hG1, F1, U1, l1, k1⟩ := sure_sm (k := (r1 : Int)) (by omega) (by omega) s1 s2 (add_mono c1 c2)
  obtain ⟨M2, E2, N2, G2, fx2, ⟨zm2, ze2⟩, ⟨zn2, zg2⟩, _, _, hM2, hE2, hN2, hG2, F2, U2, l2, k2⟩ := sure_sm (k := (r1 : Int)) (by omega) (by omega) s3 s4 (min4_le_max4 _ _ _ _)
  obtain ⟨M3, E3, N3, G3, r3, fx3, ⟨zm3, ze3⟩, ⟨zn3, zg3⟩, h3'⟩ := RetDv.fix m e n f m2 e2 n2 f2 (r1 : Int)
  have HPO := Lib.hid (fun mc ec md ed hc hd => pair_ok (mc := mc) (ec := ec) (md := md) (ed := ed) ⟨⟨zm1, ze1⟩, ⟨zn1, zg1⟩⟩ ⟨⟨zm2, ze2⟩, ⟨zn2, zg2⟩⟩ ⟨⟨zm3, ze3⟩, ⟨zn3, zg3⟩⟩ l1 k1 l2 k2 h3' hc hd)
  have p1 := fun v u W h1 h2 (hW : Below w.heap.size w W) => aadd_any m e n f m2 e2 n2 f2 (r1 : Int) v u W h1 h2 (by omega) (by omega) (by omega) (by omega) (by omega) (by omega) (by omega) (by omega) le1 le2 (by omega) (by omega) (HT.out W hW)
  simp only [fx1] at p1
  have P1 := Lib.hid p1
  clear p1 fx1
  have p2 := fun v u W h1 h2 (hW : Below w.heap.size w W) => amul_any m e n f m2 e2 n2 f2 (r1 : Int) v u W h1 h2 (by omega) (by omega) (by omega) (by omega) (by omega) (by omega) (by omega) (by omega) le1 le2 (by omega) (by omega) (HT.out W hW)
  simp only [fx2] at p2
  have P2 := Lib.hid p2
  clear p2 fx2
  have p3 := fun v u W h1 h2 (hW : Below w.heap.size w W) => adiv_any m e n f m2 e2 n2 f2 (r1 : Int) v u W h1 h2 (by omega) (by omega) (by omega) (by omega) (by omega) (by omega) (by omega) (by omega) le1 le2 (by omega) (by omega) (HT.out W hW)
  simp only [fx3] at p3
  have P3 := Lib.hid p3
  clear p3 fx3
  obtain ⟨z40, q1, q2, _, q3, q4, _, q5, q6⟩ := mid_ok lm ln he hf le1
  have md : ∀ v W, IsI W v m e n f → Calls Tryz.prog 30 #[v] W (RetDE W (midM m e n f) (midE m e n f) 0) := fun v W h => by
    have s := r10mid_any m e n f v W h (by omega) (by omega) (by omega) (by omega) q1 (by omega)
    rw [q2] at s
    exact s
  have HX1 := Lib.hid (show El (dq m e) (dq n f) m e from ⟨Rat.le_refl, c1, by omega, by omega⟩)
  have HX2 := Lib.hid (show El (dq m e) (dq n f) n f from ⟨c1, Rat.le_refl, by omega, by omega⟩)
  have hx3 : El (dq m e) (dq n f) (midM m e n f) (midE m e n f) := ⟨q5, q6, q3, q4⟩
  obtain ⟨mx, h9⟩ : ∃ z, midM m e n f = z := ⟨_, rfl⟩
  obtain ⟨kx, h8⟩ : ∃ z, midE m e n f = z := ⟨_, rfl⟩
  rw [h9, h8] at md hx3
  have HX3 := Lib.hid hx3
  have MD1 := Lib.hid md
  clear z40 q1 q2 q3 q4 q5 q6 md hx3 h9 h8
  obtain ⟨z40, q1, q2, _, q3, q4, _, q5, q6⟩ := mid_ok lm2 ln2 he2 hf2 le2
  have md : ∀ v W, IsI W v m2 e2 n2 f2 → Calls Tryz.prog 30 #[v] W (RetDE W (midM m2 e2 n2 f2) (midE m2 e2 n2 f2) 0) := fun v W h => by
    have s := r10mid_any m2 e2 n2 f2 v W h (by omega) (by omega) (by omega) (by omega) q1 (by omega)
    rw [q2] at s
    exact s
  have HY1 := Lib.hid (show El (dq m2 e2) (dq n2 f2) m2 e2 from ⟨Rat.le_refl, c2, by omega, by omega⟩)
  have HY2 := Lib.hid (show El (dq m2 e2) (dq n2 f2) n2 f2 from ⟨c2, Rat.le_refl, by omega, by omega⟩)
  have hx3 : El (dq m2 e2) (dq n2 f2) (midM m2 e2 n2 f2) (midE m2 e2 n2 f2) := ⟨q5, q6, q3, q4⟩
  obtain ⟨my, h9⟩ : ∃ z, midM m2 e2 n2 f2 = z := ⟨_, rfl⟩
  obtain ⟨ky, h8⟩ : ∃ z, midE m2 e2 n2 f2 = z := ⟨_, rfl⟩
  rw [h9, h8] at md hx3
  have HY3 := Lib.hid hx3
  have MD2 := Lib.hid md
  clear z40 q1 q2 q3 q4 q5 q6 md hx3 h9 h8
  have MO1 := Lib.hid o1
  clear o1 c1 c2 s1 s2 s3 s4 h3' br1 le1 le2 lm ln lm2 ln2 he hf he2 hf2 zm3 ze3 zn3 zg3 hM1 hE1 hN1 hG1 F1 U1 l1 k1 zm1 ze1 zn1 zg1 hM2 hE2 hN2 hG2 F2 U2 l2 k2 zm2 ze2 zn2 zg2
  have cel00 := L.b0.c60
  have cel01 := L.b0.c61
  have cel02 := L.b0.c62
  have cel03 := L.b0.c63
  have cel04 := L.b0.c64
  have cel05 := L.b0.c65
  have cel10 := L.tl.b0.c60
  have cel11 := L.tl.b0.c61
  have cel12 := L.tl.b0.c62
  have cel13 := L.tl.b0.c63
  have cel14 := L.tl.b0.c64
  have cel15 := L.tl.b0.c65
  go_wp2_with fail
  obtain ⟨g, hg⟩ : ∃ g, w2.heap.size = g := ⟨_, rfl⟩
  rw [hg] at L hlt0 cel00 cel01 cel02 cel03 cel04 cel05 cel10 cel11 cel12 cel13 cel14 cel15 ⊢
  clear hg
  refine (MO1.out _).mono ?_
  rintro e9 w' ⟨rfl, rfl⟩
  go_wp2_with fail
  refine (P1.out _ _ _ (isI_n (m := m) (e := e) (n := n) (f := f) (s := .slice A (zl m) c) (t := .slice B (zl n) d) (L.getN (by simp)) (L.getN (by simp))) (isI_n (m := m2) (e := e2) (n := n2) (f := f2) (s := .slice A2 (zl m2) k2) (t := .slice B2 (zl n2) d2) (L.getN (by simp)) (L.getN (by simp))) L.below).mono ?_
  rintro e w3 ⟨vv, rfl, ii, be⟩
  clear cel00 cel01 cel02 cel03 cel04 cel05 cel10 cel11 cel12 cel13 cel14 cel15
  obtain ⟨A11, c11, B11, d11, rfl, ia, ib⟩ := ii.form
  replace L := ((L.step be).n ib).n ia
  clear be ii ia ib
  have hlgv10 := L.b0.lt
  replace L := L.varI w3.heap.size rfl (ng M1) A11 (zl M1) c11 E1 (ng N1) B11 (zl N1) d11 G1
  have cel10 := L.tl.b0.c60
  have cel11 := L.tl.b0.c61
  have cel12 := L.tl.b0.c62
  have cel13 := L.tl.b0.c63
  have cel14 := L.tl.b0.c64
  have cel15 := L.tl.b0.c65
  have cel20 := L.tl.tl.b0.c60
  have cel21 := L.tl.tl.b0.c61
  have cel22 := L.tl.tl.b0.c62
  have cel23 := L.tl.tl.b0.c63
  have cel24 := L.tl.tl.b0.c64
  have cel25 := L.tl.tl.b0.c65
  go_wp2_with fail
  obtain ⟨gv1, hg⟩ : ∃ g, w3.heap.size = g := ⟨_, rfl⟩
  rw [hg] at L hlgv10 ⊢
  clear hg
  refine (P2.out _ _ _ (isI_n (m := m) (e := e) (n := n) (f := f) (s := .slice A (zl m) c) (t := .slice B (zl n) d) (L.getN (by simp)) (L.getN (by simp))) (isI_n (m := m2) (e := e2) (n := n2) (f := f2) (s := .slice A2 (zl m2) k2) (t := .slice B2 (zl n2) d2) (L.getN (by simp)) (L.getN (by simp))) L.below).mono ?_
  rintro e w4 ⟨vv, rfl, ii, be⟩
  clear cel10 cel11 cel12 cel13 cel14 cel15 cel20 cel21 cel22 cel23 cel24 cel25
  obtain ⟨A12, c12, B12, d12, rfl, ia, ib⟩ := ii.form
  replace L := ((L.step be).n ib).n ia
  clear be ii ia ib
  have hlgv20 := L.b0.lt
  replace L := L.varI w4.heap.size rfl (ng M2) A12 (zl M2) c12 E2 (ng N2) B12 (zl N2) d12 G2
  have cel20 := L.tl.tl.b0.c60
  have cel21 := L.tl.tl.b0.c61
  have cel22 := L.tl.tl.b0.c62
  have cel23 := L.tl.tl.b0.c63
  have cel24 := L.tl.tl.b0.c64
  have cel25 := L.tl.tl.b0.c65
  have cel30 := L.tl.tl.tl.b0.c60
  have cel31 := L.tl.tl.tl.b0.c61
  have cel32 := L.tl.tl.tl.b0.c62
  have cel33 := L.tl.tl.tl.b0.c63
  have cel34 := L.tl.tl.tl.b0.c64
  have cel35 := L.tl.tl.tl.b0.c65
  go_wp2_with fail
  obtain ⟨gv2, hg⟩ : ∃ g, w4.heap.size = g := ⟨_, rfl⟩
  rw [hg] at L hlgv20 ⊢
  clear hg
  refine (P3.out _ _ _ (isI_n (m := m) (e := e) (n := n) (f := f) (s := .slice A (zl m) c) (t := .slice B (zl n) d) (L.getN (by simp)) (L.getN (by simp))) (isI_n (m := m2) (e := e2) (n := n2) (f := f2) (s := .slice A2 (zl m2) k2) (t := .slice B2 (zl n2) d2) (L.getN (by simp)) (L.getN (by simp))) L.below).mono ?_
  rintro e w5 ⟨vv, rfl, ii, be⟩
  clear cel20 cel21 cel22 cel23 cel24 cel25 cel30 cel31 cel32 cel33 cel34 cel35
  obtain ⟨A13, c13, B13, d13, rfl, ia, ib⟩ := ii.form
  replace L := ((L.step be).n ib).n ia
  clear be ii ia ib
  have hlgv30 := L.b0.lt
  replace L := L.varI w5.heap.size rfl (ng M3) A13 (zl M3) c13 E3 (ng N3) B13 (zl N3) d13 G3
  have cel40 := L.tl.tl.tl.tl.b0.c60
  have cel41 := L.tl.tl.tl.tl.b0.c61
  have cel42 := L.tl.tl.tl.tl.b0.c62
  have cel43 := L.tl.tl.tl.tl.b0.c63
  have cel44 := L.tl.tl.tl.tl.b0.c64
  have cel45 := L.tl.tl.tl.tl.b0.c65
  go_wp2_with fail
  obtain ⟨gv3, hg⟩ : ∃ g, w5.heap.size = g := ⟨_, rfl⟩
  rw [hg] at L hlgv30 ⊢
  clear hg
  refine (MD1.out _ _ (isI_n (m := m) (e := e) (n := n) (f := f) (s := .slice A (zl m) c) (t := .slice B (zl n) d) (L.getN (by simp)) (L.getN (by simp)))).mono ?_
  rintro e w6 ⟨vv, rfl, id, be⟩
  clear cel40 cel41 cel42 cel43 cel44 cel45
  obtain ⟨A14, c14, rfl, _, in9⟩ := id.form
  replace L := (L.step be).n in9
  clear be id in9
  have hlm1 := L.b0.lt
  replace L := L.varD w6.heap.size rfl (ng mx) A14 (zl mx) c14 kx
  have cel40 := L.tl.tl.tl.tl.b0.c60
  have cel41 := L.tl.tl.tl.tl.b0.c61
  have cel42 := L.tl.tl.tl.tl.b0.c62
  have cel43 := L.tl.tl.tl.tl.b0.c63
  have cel44 := L.tl.tl.tl.tl.b0.c64
  have cel45 := L.tl.tl.tl.tl.b0.c65
  go_wp2_with fail
  obtain ⟨gm1, hg⟩ : ∃ g, w6.heap.size = g := ⟨_, rfl⟩
  rw [hg] at L hlm1 ⊢
  clear hg
  refine (MD2.out _ _ (isI_n (m := m2) (e := e2) (n := n2) (f := f2) (s := .slice A2 (zl m2) k2) (t := .slice B2 (zl n2) d2) (L.getN (by simp)) (L.getN (by simp)))).mono ?_
  rintro e w7 ⟨vv, rfl, id, be⟩
  clear cel40 cel41 cel42 cel43 cel44 cel45
  obtain ⟨A15, c15, rfl, _, in9⟩ := id.form
  replace L := (L.step be).n in9
  clear be id in9
  have hlm2 := L.b0.lt
  replace L := L.varD w7.heap.size rfl (ng my) A15 (zl my) c15 ky
  have cel10 := L.tl.b0.c30
  have cel11 := L.tl.b0.c31
  have cel12 := L.tl.b0.c32
  have cel60 := L.tl.tl.tl.tl.tl.tl.b0.c60
  have cel61 := L.tl.tl.tl.tl.tl.tl.b0.c61
  have cel62 := L.tl.tl.tl.tl.tl.tl.b0.c62
  have cel63 := L.tl.tl.tl.tl.tl.tl.b0.c63
  have cel64 := L.tl.tl.tl.tl.tl.tl.b0.c64
  have cel65 := L.tl.tl.tl.tl.tl.tl.b0.c65
  go_wp2_with fail
  clear cel10 cel11 cel12 cel60 cel61 cel62 cel63 cel64 cel65
  replace L := L.var (w7.heap.size + 1) (by simp) 26 #[.bool (ng m), .slice A (zl m) c, .int .i64 e, .bool (ng n), .slice B (zl n) d, .int .i64 f, .bool (ng mx), .slice A14 (zl mx) c14, .int .i64 kx] (plainD_3 m e n f mx kx A B A14 c d c14)
  obtain ⟨gm2, hg⟩ : ∃ g, w7.heap.size = g := ⟨_, rfl⟩
  rw [hg] at L hlm2 ⊢
  clear hg
  obtain ⟨V, hV, L9⟩ := L.name
  rw [hV]
  clear hV L
  have L := L9
  clear L9
  have HXR := Lib.hid (fun (wr : World) (hW : Below V.heap.size V wr) (t : Nat) (ht : t < 3) => row3_cell (L.b0.mono hW) ((L.getN (v := .slice A (zl m) c) (x := m.natAbs) (by simp)).mono hW) ((L.getN (v := .slice B (zl n) d) (x := n.natAbs) (by simp)).mono hW) ((L.getN (v := .slice A14 (zl mx) c14) (x := mx.natAbs) (by simp)).mono hW) HX1.out HX2.out HX3.out t ht)
  have LL := Lib.hid L
  clear L
  go_loopw [85] (fun i wr => ∃ t : Nat, i = .int .i64 (t : Int) ∧ t ≤ 3 ∧ Below V.heap.size V wr) (fun i _ => 3 - (intOf i).toNat)
  case atStart => exact ⟨0, rfl, by omega, Below.refl _ _⟩
  case round =>
    obtain ⟨t, rfl, ht, hbe⟩ := hrel
    rcases Nat.eq_or_lt_of_le ht with rfl | ht3
    · go_wp2_with fail
      go_ret
      exact ⟨rfl, (LL.out.step hbe).below⟩
    · obtain ⟨mc, ec, Ac, cc, y0, y1, y2, ic, hc⟩ := HXR.out wr hbe t ht3
      have HC := Lib.hid hc
      have hlt : (t : Int) < 3 := by omega
      have ht0 : (0 : Int) ≤ (t : Int) := by omega
      have hgV := (LL.out.step hbe).b0.lt
      have L := ((LL.out.step hbe).rebase.n ic).varD wr.heap.size rfl (ng mc) Ac (zl mc) cc ec
      clear hc ic
      have cel20 := L.tl.tl.b0.c30
      have cel21 := L.tl.tl.b0.c31
      have cel22 := L.tl.tl.b0.c32
      have cel70 := L.tl.tl.tl.tl.tl.tl.tl.b0.c60
      have cel71 := L.tl.tl.tl.tl.tl.tl.tl.b0.c61
      have cel72 := L.tl.tl.tl.tl.tl.tl.tl.b0.c62
      have cel73 := L.tl.tl.tl.tl.tl.tl.tl.b0.c63
      have cel74 := L.tl.tl.tl.tl.tl.tl.tl.b0.c64
      have cel75 := L.tl.tl.tl.tl.tl.tl.tl.b0.c65
      go_wp2_with fail
      clear y0 y1 y2
      clear cel20 cel21 cel22 cel70 cel71 cel72 cel73 cel74 cel75
      replace L := L.var (wr.heap.size + 1) (by simp) 26 #[.bool (ng m2), .slice A2 (zl m2) k2, .int .i64 e2, .bool (ng n2), .slice B2 (zl n2) d2, .int .i64 f2, .bool (ng my), .slice A15 (zl my) c15, .int .i64 ky] (plainD_3 m2 e2 n2 f2 my ky A2 B2 A15 k2 d2 c15)
      obtain ⟨gc, hgc⟩ : ∃ g, wr.heap.size = g := ⟨_, rfl⟩
      have hbs := hbe.size
      rw [hgc] at L hgV ⊢
      clear hgc
      obtain ⟨U, hU, L9⟩ := L.name
      rw [hU]
      clear hU L
      have L := L9
      clear L9
      have HVU := Lib.hid (hbe.trans (L.below.mono hbs))
      clear hbs hbe
      have HYR := Lib.hid (fun (wr : World) (hW : Below U.heap.size U wr) (t : Nat) (ht : t < 3) => row3_cell (L.b0.mono hW) ((L.getN (v := .slice A2 (zl m2) k2) (x := m2.natAbs) (by simp)).mono hW) ((L.getN (v := .slice B2 (zl n2) d2) (x := n2.natAbs) (by simp)).mono hW) ((L.getN (v := .slice A15 (zl my) c15) (x := my.natAbs) (by simp)).mono hW) HY1.out HY2.out HY3.out t ht)
      have LU := Lib.hid L
      clear L
      go_loopw [96] (fun i wr => ∃ t : Nat, i = .int .i64 (t : Int) ∧ t ≤ 3 ∧ Below U.heap.size U wr) (fun i _ => 3 - (intOf i).toNat)
      case atStart => exact ⟨0, rfl, by omega, Below.refl _ _⟩
      case round =>
        obtain ⟨t2, rfl, ht2, hbe⟩ := hrel
        have hbs := hbe.size
        rcases Nat.eq_or_lt_of_le ht2 with rfl | ht4
        · go_wp2_with fail
          go_roundw
          case rel => exact ⟨t + 1, by go_num, by omega, HVU.out.trans (hbe.mono HVU.out.size)⟩
          case measure => simp [intOf]; omega
        · obtain ⟨md, ed, Ad, cd, y0, y1, y2, id9, hd⟩ := HYR.out wr hbe t2 ht4
          obtain ⟨xa, xd, ya, yd, sa, sd, ta, td, va, vd, ve, q1, q2, q3, q4, q5, q6, q7, q8⟩ := HPO.out mc ec md ed HC.out hd
          have Q1 := Lib.hid q1
          have Q2 := Lib.hid q2
          have Q3 := Lib.hid q3
          have Q4 := Lib.hid q4
          have Q5 := Lib.hid q5
          have Q6 := Lib.hid q6
          have Q7 := Lib.hid q7
          have Q8 := Lib.hid q8
          have hlt2 : (t2 : Int) < 3 := by omega
          have ht02 : (0 : Int) ≤ (t2 : Int) := by omega
          have hgW := (LU.out.step hbe).b0.lt
          have L := ((LU.out.step hbe).rebase.n id9).varD wr.heap.size rfl (ng md) Ad (zl md) cd ed
          clear hd id9 q1 q2 q3 q4 q5 q6 q7 q8
          (try go_wp2_with fail)
          clear y0 y1 y2
          obtain ⟨gd, hgd⟩ : ∃ g, wr.heap.size = g := ⟨_, rfl⟩
          rw [hgd] at L hgW ⊢
          clear hgd
          obtain ⟨X, hX, L9⟩ := L.name
          rw [hX]
          clear hX L
          have L := L9
          clear L9
          have Q90 := Lib.hid (fun Z (hZ : Below X.heap.size X Z) => (L.tl.tl.b0.mono hZ).c30)
          have Q91 := Lib.hid (fun Z (hZ : Below X.heap.size X Z) => (L.tl.tl.b0.mono hZ).c31)
          have Q92 := Lib.hid (fun Z (hZ : Below X.heap.size X Z) => (L.tl.tl.b0.mono hZ).c32)
          have Q93 := Lib.hid (fun Z (hZ : Below X.heap.size X Z) => (L.b0.mono hZ).c30)
          have Q94 := Lib.hid (fun Z (hZ : Below X.heap.size X Z) => (L.b0.mono hZ).c31)
          have Q95 := Lib.hid (fun Z (hZ : Below X.heap.size X Z) => (L.b0.mono hZ).c32)
          have hb1 := L.tl.tl.b0.lt
          have hb2 := L.b0.lt
          have D0 : Dq X X [(.slice Ac (zl mc) cc, mc.natAbs), (.slice Ad (zl md) cd, md.natAbs)] [] [] [] := ⟨((Lq.mk0 X).n (L.getN (v := .slice Ad (zl md) cd) (x := (md).natAbs) (by simp))).n (L.getN (v := .slice Ac (zl mc) cc) (x := (mc).natAbs) (by simp)), List.nodup_nil, fun p hp => by cases hp⟩
          have D := D0.drew
          have LL2 := Lib.hid L
          clear L
          obtain ⟨K, hK⟩ : ∃ K, X.heap.size = K := ⟨_, rfl⟩
          have hz0 : K ≤ X.heap.size := by omega
          have hc1 : gc < K := by omega
          have hc2 : gd < K := by omega
          have hmd : X.drew.heap.size = K := hK
          go_cut [24, 25] from 100 to 104 (fun s5 s6 wx => Made2Q X xa xd ya yd s5 s6 wx)
          case first =>
            go_region_held3 (fun w' => w'.cell? ⟨gc, 0, none⟩ = some (.bool (ng mc)) ∧ w'.cell? ⟨gc, 1, none⟩ = some (.slice Ac (zl mc) cc) ∧ w'.cell? ⟨gc, 2, none⟩ = some (.int .i64 ec) ∧ w'.cell? ⟨gd, 0, none⟩ = some (.bool (ng md)) ∧ w'.cell? ⟨gd, 1, none⟩ = some (.slice Ad (zl md) cd) ∧ w'.cell? ⟨gd, 2, none⟩ = some (.int .i64 ed)) (((try dsimp only); refine ⟨?_, ?_, ?_, ?_, ?_, ?_⟩ <;> (repeat (first | (with_reducible exact Q90.out _ D.lq.below) | (with_reducible exact Q90.out _ D0.lq.below) | (with_reducible exact Q91.out _ D.lq.below) | (with_reducible exact Q91.out _ D0.lq.below) | (with_reducible exact Q92.out _ D.lq.below) | (with_reducible exact Q92.out _ D0.lq.below) | (with_reducible exact Q93.out _ D.lq.below) | (with_reducible exact Q93.out _ D0.lq.below) | (with_reducible exact Q94.out _ D.lq.below) | (with_reducible exact Q94.out _ D0.lq.below) | (with_reducible exact Q95.out _ D.lq.below) | (with_reducible exact Q95.out _ D0.lq.below) | (with_reducible refine c_alloc _ ?_) | (with_reducible refine c_drew ?_) | (with_reducible refine c_set ?_ (by assumption) ?_) | omega)))) (first | (go_at_call 31; (with_reducible refine (Q1.out _ _ ?_ ).mono ?_); (· (first | (with_reducible refine isD_n (D.getN ?_); (repeat (first | (with_reducible exact List.mem_cons_self) | apply List.mem_cons_of_mem))) | (with_reducible refine isD_n ((D.box false none none 0 0 0 0).getN ?_); (repeat (first | (with_reducible exact List.mem_cons_self) | apply List.mem_cons_of_mem))) | (with_reducible refine isD_n ((D.box2 false none none 0 0 0 0 false none none 0 0 0 0).getN ?_); (repeat (first | (with_reducible exact List.mem_cons_self) | apply List.mem_cons_of_mem))) | (with_reducible refine isD_n ((D0.box false none none 0 0 0 0).drew.getN ?_); (repeat (first | (with_reducible exact List.mem_cons_self) | apply List.mem_cons_of_mem))) | (with_reducible refine isD_n ((D0.box2 false none none 0 0 0 0 false none none 0 0 0 0).drew.getN ?_); (repeat (first | (with_reducible exact List.mem_cons_self) | apply List.mem_cons_of_mem))))); rintro e9 wh ⟨vh, rfl, iq, be⟩; (first | (replace D := D.step be) | (replace D := (D.boxM hmd false none none 0 0 0 0).step be) | (replace D := (D.boxM2 hmd false none none 0 0 0 0 false none none 0 0 0 0).step be) | (replace D := (D.box false none none 0 0 0 0).step be) | (replace D := (D.box2 false none none 0 0 0 0 false none none 0 0 0 0).step be)); have hz := be.size; (try simp at hz); replace D := D.q iq; obtain ⟨A8, c8, B8, k8, rfl, _, _, _⟩ := iq.form; clear iq; (try (have q000 := D.lq.b0.c30; have q003 := D.lq.b0.fr 0; have q001 := D.lq.b0.c31; have q004 := D.lq.b0.fr 1; have q002 := D.lq.b0.c32; have q005 := D.lq.b0.fr 2)); (try (have q010 := (D.alloc (.cells #[.bool false, .slice none 0 0, .slice none 0 0] 45)).lq.b0.c30; have q013 := (D.alloc (.cells #[.bool false, .slice none 0 0, .slice none 0 0] 45)).lq.b0.fr 0; have q011 := (D.alloc (.cells #[.bool false, .slice none 0 0, .slice none 0 0] 45)).lq.b0.c31; have q014 := (D.alloc (.cells #[.bool false, .slice none 0 0, .slice none 0 0] 45)).lq.b0.fr 1; have q012 := (D.alloc (.cells #[.bool false, .slice none 0 0, .slice none 0 0] 45)).lq.b0.c32; have q015 := (D.alloc (.cells #[.bool false, .slice none 0 0, .slice none 0 0] 45)).lq.b0.fr 2)); (try (have q020 := ((D.alloc (.cells #[.bool false, .slice none 0 0, .slice none 0 0] 45)).alloc (.cells #[.bool false, .slice none 0 0, .slice none 0 0] 45)).lq.b0.c30; have q023 := ((D.alloc (.cells #[.bool false, .slice none 0 0, .slice none 0 0] 45)).alloc (.cells #[.bool false, .slice none 0 0, .slice none 0 0] 45)).lq.b0.fr 0; have q021 := ((D.alloc (.cells #[.bool false, .slice none 0 0, .slice none 0 0] 45)).alloc (.cells #[.bool false, .slice none 0 0, .slice none 0 0] 45)).lq.b0.c31; have q024 := ((D.alloc (.cells #[.bool false, .slice none 0 0, .slice none 0 0] 45)).alloc (.cells #[.bool false, .slice none 0 0, .slice none 0 0] 45)).lq.b0.fr 1; have q022 := ((D.alloc (.cells #[.bool false, .slice none 0 0, .slice none 0 0] 45)).alloc (.cells #[.bool false, .slice none 0 0, .slice none 0 0] 45)).lq.b0.c32; have q025 := ((D.alloc (.cells #[.bool false, .slice none 0 0, .slice none 0 0] 45)).alloc (.cells #[.bool false, .slice none 0 0, .slice none 0 0] 45)).lq.b0.fr 2)); (try (have q100 := D.lq.tl.b0.c30; have q103 := D.lq.tl.b0.fr 0; have q101 := D.lq.tl.b0.c31; have q104 := D.lq.tl.b0.fr 1; have q102 := D.lq.tl.b0.c32; have q105 := D.lq.tl.b0.fr 2)); (try (have q110 := (D.alloc (.cells #[.bool false, .slice none 0 0, .slice none 0 0] 45)).lq.tl.b0.c30; have q113 := (D.alloc (.cells #[.bool false, .slice none 0 0, .slice none 0 0] 45)).lq.tl.b0.fr 0; have q111 := (D.alloc (.cells #[.bool false, .slice none 0 0, .slice none 0 0] 45)).lq.tl.b0.c31; have q114 := (D.alloc (.cells #[.bool false, .slice none 0 0, .slice none 0 0] 45)).lq.tl.b0.fr 1; have q112 := (D.alloc (.cells #[.bool false, .slice none 0 0, .slice none 0 0] 45)).lq.tl.b0.c32; have q115 := (D.alloc (.cells #[.bool false, .slice none 0 0, .slice none 0 0] 45)).lq.tl.b0.fr 2)); (try (have q120 := ((D.alloc (.cells #[.bool false, .slice none 0 0, .slice none 0 0] 45)).alloc (.cells #[.bool false, .slice none 0 0, .slice none 0 0] 45)).lq.tl.b0.c30; have q123 := ((D.alloc (.cells #[.bool false, .slice none 0 0, .slice none 0 0] 45)).alloc (.cells #[.bool false, .slice none 0 0, .slice none 0 0] 45)).lq.tl.b0.fr 0; have q121 := ((D.alloc (.cells #[.bool false, .slice none 0 0, .slice none 0 0] 45)).alloc (.cells #[.bool false, .slice none 0 0, .slice none 0 0] 45)).lq.tl.b0.c31; have q124 := ((D.alloc (.cells #[.bool false, .slice none 0 0, .slice none 0 0] 45)).alloc (.cells #[.bool false, .slice none 0 0, .slice none 0 0] 45)).lq.tl.b0.fr 1; have q122 := ((D.alloc (.cells #[.bool false, .slice none 0 0, .slice none 0 0] 45)).alloc (.cells #[.bool false, .slice none 0 0, .slice none 0 0] 45)).lq.tl.b0.c32; have q125 := ((D.alloc (.cells #[.bool false, .slice none 0 0, .slice none 0 0] 45)).alloc (.cells #[.bool false, .slice none 0 0, .slice none 0 0] 45)).lq.tl.b0.fr 2)); (try obtain ⟨na, nb, nc, nd, nl⟩ := D.n0); (try obtain ⟨ne, nf, ng', nh, nm⟩ := D.n1); (try obtain ⟨ni, nj⟩ := D.n01)) | (go_at_call 31; (with_reducible refine (Q2.out _ _ ?_ ).mono ?_); (· (first | (with_reducible refine isD_n (D.getN ?_); (repeat (first | (with_reducible exact List.mem_cons_self) | apply List.mem_cons_of_mem))) | (with_reducible refine isD_n ((D.box false none none 0 0 0 0).getN ?_); (repeat (first | (with_reducible exact List.mem_cons_self) | apply List.mem_cons_of_mem))) | (with_reducible refine isD_n ((D.box2 false none none 0 0 0 0 false none none 0 0 0 0).getN ?_); (repeat (first | (with_reducible exact List.mem_cons_self) | apply List.mem_cons_of_mem))) | (with_reducible refine isD_n ((D0.box false none none 0 0 0 0).drew.getN ?_); (repeat (first | (with_reducible exact List.mem_cons_self) | apply List.mem_cons_of_mem))) | (with_reducible refine isD_n ((D0.box2 false none none 0 0 0 0 false none none 0 0 0 0).drew.getN ?_); (repeat (first | (with_reducible exact List.mem_cons_self) | apply List.mem_cons_of_mem))))); rintro e9 wh ⟨vh, rfl, iq, be⟩; (first | (replace D := D.step be) | (replace D := (D.boxM hmd false none none 0 0 0 0).step be) | (replace D := (D.boxM2 hmd false none none 0 0 0 0 false none none 0 0 0 0).step be) | (replace D := (D.box false none none 0 0 0 0).step be) | (replace D := (D.box2 false none none 0 0 0 0 false none none 0 0 0 0).step be)); have hz := be.size; (try simp at hz); replace D := D.q iq; obtain ⟨A9, c9, B9, k9, rfl, _, _, _⟩ := iq.form; clear iq; (try (have q000 := D.lq.b0.c30; have q003 := D.lq.b0.fr 0; have q001 := D.lq.b0.c31; have q004 := D.lq.b0.fr 1; have q002 := D.lq.b0.c32; have q005 := D.lq.b0.fr 2)); (try (have q010 := (D.alloc (.cells #[.bool false, .slice none 0 0, .slice none 0 0] 45)).lq.b0.c30; have q013 := (D.alloc (.cells #[.bool false, .slice none 0 0, .slice none 0 0] 45)).lq.b0.fr 0; have q011 := (D.alloc (.cells #[.bool false, .slice none 0 0, .slice none 0 0] 45)).lq.b0.c31; have q014 := (D.alloc (.cells #[.bool false, .slice none 0 0, .slice none 0 0] 45)).lq.b0.fr 1; have q012 := (D.alloc (.cells #[.bool false, .slice none 0 0, .slice none 0 0] 45)).lq.b0.c32; have q015 := (D.alloc (.cells #[.bool false, .slice none 0 0, .slice none 0 0] 45)).lq.b0.fr 2)); (try (have q020 := ((D.alloc (.cells #[.bool false, .slice none 0 0, .slice none 0 0] 45)).alloc (.cells #[.bool false, .slice none 0 0, .slice none 0 0] 45)).lq.b0.c30; have q023 := ((D.alloc (.cells #[.bool false, .slice none 0 0, .slice none 0 0] 45)).alloc (.cells #[.bool false, .slice none 0 0, .slice none 0 0] 45)).lq.b0.fr 0; have q021 := ((D.alloc (.cells #[.bool false, .slice none 0 0, .slice none 0 0] 45)).alloc (.cells #[.bool false, .slice none 0 0, .slice none 0 0] 45)).lq.b0.c31; have q024 := ((D.alloc (.cells #[.bool false, .slice none 0 0, .slice none 0 0] 45)).alloc (.cells #[.bool false, .slice none 0 0, .slice none 0 0] 45)).lq.b0.fr 1; have q022 := ((D.alloc (.cells #[.bool false, .slice none 0 0, .slice none 0 0] 45)).alloc (.cells #[.bool false, .slice none 0 0, .slice none 0 0] 45)).lq.b0.c32; have q025 := ((D.alloc (.cells #[.bool false, .slice none 0 0, .slice none 0 0] 45)).alloc (.cells #[.bool false, .slice none 0 0, .slice none 0 0] 45)).lq.b0.fr 2)); (try (have q100 := D.lq.tl.b0.c30; have q103 := D.lq.tl.b0.fr 0; have q101 := D.lq.tl.b0.c31; have q104 := D.lq.tl.b0.fr 1; have q102 := D.lq.tl.b0.c32; have q105 := D.lq.tl.b0.fr 2)); (try (have q110 := (D.alloc (.cells #[.bool false, .slice none 0 0, .slice none 0 0] 45)).lq.tl.b0.c30; have q113 := (D.alloc (.cells #[.bool false, .slice none 0 0, .slice none 0 0] 45)).lq.tl.b0.fr 0; have q111 := (D.alloc (.cells #[.bool false, .slice none 0 0, .slice none 0 0] 45)).lq.tl.b0.c31; have q114 := (D.alloc (.cells #[.bool false, .slice none 0 0, .slice none 0 0] 45)).lq.tl.b0.fr 1; have q112 := (D.alloc (.cells #[.bool false, .slice none 0 0, .slice none 0 0] 45)).lq.tl.b0.c32; have q115 := (D.alloc (.cells #[.bool false, .slice none 0 0, .slice none 0 0] 45)).lq.tl.b0.fr 2)); (try (have q120 := ((D.alloc (.cells #[.bool false, .slice none 0 0, .slice none 0 0] 45)).alloc (.cells #[.bool false, .slice none 0 0, .slice none 0 0] 45)).lq.tl.b0.c30; have q123 := ((D.alloc (.cells #[.bool false, .slice none 0 0, .slice none 0 0] 45)).alloc (.cells #[.bool false, .slice none 0 0, .slice none 0 0] 45)).lq.tl.b0.fr 0; have q121 := ((D.alloc (.cells #[.bool false, .slice none 0 0, .slice none 0 0] 45)).alloc (.cells #[.bool false, .slice none 0 0, .slice none 0 0] 45)).lq.tl.b0.c31; have q124 := ((D.alloc (.cells #[.bool false, .slice none 0 0, .slice none 0 0] 45)).alloc (.cells #[.bool false, .slice none 0 0, .slice none 0 0] 45)).lq.tl.b0.fr 1; have q122 := ((D.alloc (.cells #[.bool false, .slice none 0 0, .slice none 0 0] 45)).alloc (.cells #[.bool false, .slice none 0 0, .slice none 0 0] 45)).lq.tl.b0.c32; have q125 := ((D.alloc (.cells #[.bool false, .slice none 0 0, .slice none 0 0] 45)).alloc (.cells #[.bool false, .slice none 0 0, .slice none 0 0] 45)).lq.tl.b0.fr 2)); (try obtain ⟨na, nb, nc, nd, nl⟩ := D.n0); (try obtain ⟨ne, nf, ng', nh, nm⟩ := D.n1); (try obtain ⟨ni, nj⟩ := D.n01)))
            all_goals
              go_wp2_with fail
              go_meet
              first
              | ((with_reducible refine made2q_a D ?_ ?_) <;> (repeat (first | (with_reducible exact List.mem_cons_self) | apply List.mem_cons_of_mem)))
              | ((with_reducible refine made2q_b D ?_ ?_) <;> (repeat (first | (with_reducible exact List.mem_cons_self) | apply List.mem_cons_of_mem)))
              | ((with_reducible refine made2q_c D ?_ ?_) <;> (repeat (first | (with_reducible exact List.mem_cons_self) | apply List.mem_cons_of_mem)))
              | ((with_reducible refine made2q_d D ?_ ?_) <;> (repeat (first | (with_reducible exact List.mem_cons_self) | apply List.mem_cons_of_mem)))
              | ((with_reducible refine made2q_e D ?_ ?_) <;> (repeat (first | (with_reducible exact List.mem_cons_self) | apply List.mem_cons_of_mem)))
              | ((with_reducible refine made2q_f D ?_ ?_) <;> (repeat (first | (with_reducible exact List.mem_cons_self) | apply List.mem_cons_of_mem)))
          case rest =>
            obtain ⟨gp, gs, A21, B21, c21, k21, A22, B22, c22, k22, rfl, rfl, bw, hv1, hv2, iq1, iq2⟩ := hcut
            have L := ((((LL2.out.step bw).q iq2).q iq1).b hv2).b hv1
            clear D D0 hmd hz0 hK LL2 hv1 hv2 iq1 iq2 bw hb1 hb2 hc1 hc2 Q90 Q91 Q92 Q93 Q94 Q95
            generalize wc = wd at *
            (try go_wp2_with fail)
            replace L := L.drew
            have cel00 := L.b0.c30
            have cel01 := L.b0.c31
            have cel02 := L.b0.c32
            have cel10 := L.tl.b0.c30
            have cel11 := L.tl.b0.c31
            have cel12 := L.tl.b0.c32
            have cel90 := L.tl.tl.tl.tl.tl.tl.tl.tl.tl.b0.c60
            have cel91 := L.tl.tl.tl.tl.tl.tl.tl.tl.tl.b0.c61
            have cel92 := L.tl.tl.tl.tl.tl.tl.tl.tl.tl.b0.c62
            have cel93 := L.tl.tl.tl.tl.tl.tl.tl.tl.tl.b0.c63
            have cel94 := L.tl.tl.tl.tl.tl.tl.tl.tl.tl.b0.c64
            have cel95 := L.tl.tl.tl.tl.tl.tl.tl.tl.tl.b0.c65
            have cel100 := L.tl.tl.tl.tl.tl.tl.tl.tl.tl.tl.b0.c60
            have cel101 := L.tl.tl.tl.tl.tl.tl.tl.tl.tl.tl.b0.c61
            have cel102 := L.tl.tl.tl.tl.tl.tl.tl.tl.tl.tl.b0.c62
            have cel103 := L.tl.tl.tl.tl.tl.tl.tl.tl.tl.tl.b0.c63
            have cel104 := L.tl.tl.tl.tl.tl.tl.tl.tl.tl.tl.b0.c64
            have cel105 := L.tl.tl.tl.tl.tl.tl.tl.tl.tl.tl.b0.c65
            go_region_held3 (fun w' => w'.cell? ⟨gv1, 0, none⟩ = some (.bool (ng M1)) ∧ w'.cell? ⟨gv1, 1, none⟩ = some (.slice A11 (zl M1) c11) ∧ w'.cell? ⟨gv1, 2, none⟩ = some (.int .i64 E1) ∧ w'.cell? ⟨gv1, 3, none⟩ = some (.bool (ng N1)) ∧ w'.cell? ⟨gv1, 4, none⟩ = some (.slice B11 (zl N1) d11) ∧ w'.cell? ⟨gv1, 5, none⟩ = some (.int .i64 G1) ∧ w'.cell? ⟨gv2, 0, none⟩ = some (.bool (ng M2)) ∧ w'.cell? ⟨gv2, 1, none⟩ = some (.slice A12 (zl M2) c12) ∧ w'.cell? ⟨gv2, 2, none⟩ = some (.int .i64 E2) ∧ w'.cell? ⟨gv2, 3, none⟩ = some (.bool (ng N2)) ∧ w'.cell? ⟨gv2, 4, none⟩ = some (.slice B12 (zl N2) d12) ∧ w'.cell? ⟨gv2, 5, none⟩ = some (.int .i64 G2) ∧ w'.cell? ⟨gp, 0, none⟩ = some (.bool (ng xa)) ∧ w'.cell? ⟨gp, 1, none⟩ = some (.slice A21 (zl xa) c21) ∧ w'.cell? ⟨gp, 2, none⟩ = some (.slice B21 (len xd) k21) ∧ w'.cell? ⟨gs, 0, none⟩ = some (.bool (ng ya)) ∧ w'.cell? ⟨gs, 1, none⟩ = some (.slice A22 (zl ya) c22) ∧ w'.cell? ⟨gs, 2, none⟩ = some (.slice B22 (len yd) k22)) (first | (with_reducible exact ⟨L.tl.tl.tl.tl.tl.tl.tl.tl.tl.tl.b0.c60, L.tl.tl.tl.tl.tl.tl.tl.tl.tl.tl.b0.c61, L.tl.tl.tl.tl.tl.tl.tl.tl.tl.tl.b0.c62, L.tl.tl.tl.tl.tl.tl.tl.tl.tl.tl.b0.c63, L.tl.tl.tl.tl.tl.tl.tl.tl.tl.tl.b0.c64, L.tl.tl.tl.tl.tl.tl.tl.tl.tl.tl.b0.c65, L.tl.tl.tl.tl.tl.tl.tl.tl.tl.b0.c60, L.tl.tl.tl.tl.tl.tl.tl.tl.tl.b0.c61, L.tl.tl.tl.tl.tl.tl.tl.tl.tl.b0.c62, L.tl.tl.tl.tl.tl.tl.tl.tl.tl.b0.c63, L.tl.tl.tl.tl.tl.tl.tl.tl.tl.b0.c64, L.tl.tl.tl.tl.tl.tl.tl.tl.tl.b0.c65, L.b0.c30, L.b0.c31, L.b0.c32, L.tl.b0.c30, L.tl.b0.c31, L.tl.b0.c32⟩) | exact ⟨L.tl.tl.tl.tl.tl.tl.tl.tl.tl.tl.b0.c60, L.tl.tl.tl.tl.tl.tl.tl.tl.tl.tl.b0.c61, L.tl.tl.tl.tl.tl.tl.tl.tl.tl.tl.b0.c62, L.tl.tl.tl.tl.tl.tl.tl.tl.tl.tl.b0.c63, L.tl.tl.tl.tl.tl.tl.tl.tl.tl.tl.b0.c64, L.tl.tl.tl.tl.tl.tl.tl.tl.tl.tl.b0.c65, L.tl.tl.tl.tl.tl.tl.tl.tl.tl.b0.c60, L.tl.tl.tl.tl.tl.tl.tl.tl.tl.b0.c61, L.tl.tl.tl.tl.tl.tl.tl.tl.tl.b0.c62, L.tl.tl.tl.tl.tl.tl.tl.tl.tl.b0.c63, L.tl.tl.tl.tl.tl.tl.tl.tl.tl.b0.c64, L.tl.tl.tl.tl.tl.tl.tl.tl.tl.b0.c65, L.b0.c30, L.b0.c31, L.b0.c32, L.tl.b0.c30, L.tl.b0.c31, L.tl.b0.c32⟩) (first | (go_at_call 32; (with_reducible refine (Q3.out _ _ _ ?_ ?_ ).mono ?_); (· (refine L.getQ ?_; (repeat (first | (with_reducible exact List.mem_cons_self) | apply List.mem_cons_of_mem)))); (· (refine L.getQ ?_; (repeat (first | (with_reducible exact List.mem_cons_self) | apply List.mem_cons_of_mem)))); rintro e wh ⟨vh, rfl, iq, be⟩; replace L := (L.step be).q iq; clear be iq) | (go_at_call 33; (with_reducible refine (Q4.out _ _ _ ?_ ?_ ).mono ?_); (· (refine L.getQ ?_; (repeat (first | (with_reducible exact List.mem_cons_self) | apply List.mem_cons_of_mem)))); (· (refine L.getQ ?_; (repeat (first | (with_reducible exact List.mem_cons_self) | apply List.mem_cons_of_mem)))); rintro e wh ⟨vh, rfl, iq, be⟩; replace L := (L.step be).q iq; clear be iq) | (go_at_call 28; (with_reducible refine (Q5.out _ _ _ ?_ ?_ ).mono ?_); (· (refine isI_n (L.getN ?_) (L.getN ?_) <;> (repeat (first | (with_reducible exact List.mem_cons_self) | apply List.mem_cons_of_mem)))); (· (refine L.getQ ?_; (repeat (first | (with_reducible exact List.mem_cons_self) | apply List.mem_cons_of_mem)))); rintro e wh ⟨rfl, be⟩; replace L := L.step be; clear be) | (go_at_call 28; (with_reducible refine (Q6.out _ _ _ ?_ ?_ ).mono ?_); (· (refine isI_n (L.getN ?_) (L.getN ?_) <;> (repeat (first | (with_reducible exact List.mem_cons_self) | apply List.mem_cons_of_mem)))); (· (refine L.getQ ?_; (repeat (first | (with_reducible exact List.mem_cons_self) | apply List.mem_cons_of_mem)))); rintro e wh ⟨rfl, be⟩; replace L := L.step be; clear be))
            clear cel00 cel01 cel02 cel10 cel11 cel12 cel90 cel91 cel92 cel93 cel94 cel95 cel100 cel101 cel102 cel103 cel104 cel105
            have cel00 := L.b0.c30
            have cel01 := L.b0.c31
            have cel02 := L.b0.c32
            have cel10 := L.tl.b0.c30
            have cel11 := L.tl.b0.c31
            have cel12 := L.tl.b0.c32
            (try go_wp2_with fail)
            refine (Q7.out _ _ _ (L.getQ (v := .agg #[.bool (ng xa), .slice A21 (zl xa) c21, .slice B21 (len xd) k21]) (a := xa) (d := xd) (by simp)) (L.getQ (v := .agg #[.bool (ng ya), .slice A22 (zl ya) c22, .slice B22 (len yd) k22]) (a := ya) (d := yd) (by simp))).mono ?_
            rintro e w31 ⟨vq, rfl, iq, be⟩
            clear cel00 cel01 cel02 cel10 cel11 cel12
            obtain ⟨A27, c27, B27, k27, rfl, _, _, _⟩ := iq.form
            replace L := (L.step be).q iq
            clear be iq
            have hlq0 := L.b0.lt
            have hlq1 := L.tl.b0.lt
            replace L := L.varQ w31.heap.size rfl (ng va) A27 B27 (zl va) c27 (len vd) k27
            by_cases hr : r3 = 0
            · have b0 : (r3 == 0) = true := by simpa using hr
              obtain ⟨he7, q9⟩ := Q8.out hr
              have QH := Lib.hid q9
              subst he7
              clear hr q9 Q8
              have cel00 := L.b0.c30
              have cel01 := L.b0.c31
              have cel02 := L.b0.c32
              have cel90 := L.tl.tl.tl.tl.tl.tl.tl.tl.tl.b0.c60
              have cel91 := L.tl.tl.tl.tl.tl.tl.tl.tl.tl.b0.c61
              have cel92 := L.tl.tl.tl.tl.tl.tl.tl.tl.tl.b0.c62
              have cel93 := L.tl.tl.tl.tl.tl.tl.tl.tl.tl.b0.c63
              have cel94 := L.tl.tl.tl.tl.tl.tl.tl.tl.tl.b0.c64
              have cel95 := L.tl.tl.tl.tl.tl.tl.tl.tl.tl.b0.c65
              go_wp2_with fail
              obtain ⟨gq, hg⟩ : ∃ g, w31.heap.size = g := ⟨_, rfl⟩
              rw [hg] at L hlq0 hlq1 cel00 cel01 cel02 ⊢
              clear hg
              refine (QH.out _ _ _ (isI_n (m := M3) (e := E3) (n := N3) (f := G3) (s := .slice A13 (zl M3) c13) (t := .slice B13 (zl N3) d13) (L.getN (by simp)) (L.getN (by simp))) (L.getQ (v := .agg #[.bool (ng va), .slice A27 (zl va) c27, .slice B27 (len vd) k27]) (a := va) (d := vd) (by simp))).mono ?_
              rintro e w32 ⟨rfl, be⟩
              clear cel00 cel01 cel02 cel90 cel91 cel92 cel93 cel94 cel95
              replace L := L.step be
              clear be
              go_wp2_with fail
              go_roundw
              case rel => exact ⟨t2 + 1, by go_num, by omega, hbe.trans (L.below.mono hbs)⟩
              case measure => simp [intOf]; omega
            · have b0 : (r3 == 0) = false := by simpa using hr
              clear hr Q8
              go_wp2_with fail
              go_roundw
              case rel => exact ⟨t2 + 1, by go_num, by omega, hbe.trans (L.below.mono hbs)⟩
              case measure => simp [intOf]; omega

end Go.Proofs.YtoobcngbnjeddaaGreatDoor
